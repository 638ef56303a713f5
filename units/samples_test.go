package units

import (
	"fmt"
	"math/rand"
	"slices"
	"strings"
	"testing"

	"wageoffice/api"
	"wageoffice/parser"
)

// What follows makes samples: texts of expressions and sources from fixed seeds, and edited trees.

const (
	allUnits = "truth number minutes EUR USD"

	// There is a fact of each unit, and a line of each unit that a line can have.
	facts = "fact t : truth; fact n : number; fact m : minutes; fact e : EUR; fact u : USD; "
	lines = "line e : EUR earn; line u : USD floor; line n : number info; line m : minutes info; "

	head = " rank 1 from 2024-01-01 known 2024-01-01 "
)

func pick[T any](rng *rand.Rand, list ...T) T { return list[rng.Intn(len(list))] }

// maker makes texts. Of wild parts, one has another unit than its place asks for, or an unknown name; without wild parts none does.
type maker struct {
	*rand.Rand
	wild int
}

func newMaker(seed int64, wild int) maker { return maker{rand.New(rand.NewSource(seed)), wild} }

func (m maker) breaks() bool { return m.wild > 0 && m.Intn(m.wild) == 0 }

// one returns one of the words of a text.
func (m maker) one(text string) string { return pick(m.Rand, words(text)...) }

// expr returns the text of an expression of a unit.
func (m maker) expr(unit string, depth int) string {
	if m.breaks() {
		unit = m.one(allUnits)
	}
	switch {
	case depth == 0 || m.Intn(5) == 0:
		return m.atom(unit)
	case unit == "truth":
		return m.condition(depth)
	}
	return m.quantity(unit, depth)
}

func (m maker) condition(depth int) string {
	part := func(unit string) string { return m.expr(unit, depth-1) }
	switch m.Intn(4) {
	case 0:
		return "(not " + part("truth") + ")"
	case 1:
		return "(" + part("truth") + " " + m.one("or and") + " " + part("truth") + ")"
	case 2:
		unit := m.one(allUnits)
		return "(" + part(unit) + " " + m.one("== !=") + " " + part(unit) + ")"
	}
	unit := m.one("number minutes EUR USD")
	return "(" + part(unit) + " " + m.one("< <= > >=") + " " + part(unit) + ")"
}

// quantity returns the text of an expression of a unit other than truth.
func (m maker) quantity(unit string, depth int) string {
	part := func(unit string) string { return m.expr(unit, depth-1) }
	kinds := 5
	if unit == strings.ToUpper(unit) {
		kinds = 7
	}
	switch m.Intn(kinds) {
	case 0:
		return "(" + part(unit) + " " + m.one("+ -") + " " + part(unit) + ")"
	case 1:
		return "(" + part("number") + " * " + part(unit) + ")"
	case 2:
		return "(" + part(unit) + " * " + part("number") + ")"
	case 3:
		return "(" + part(unit) + " / 3)"
	case 4:
		return m.one("least greatest") + "(" + part(unit) + ", " + part(unit) + pick(m.Rand, "", ", "+part(unit)) + ")"
	case 5:
		return "table(" + part(unit) + "; 0 : 0 + 1/2)"
	}
	return "(" + part("minutes") + " at " + part(unit) + ")"
}

func (m maker) atom(unit string) string {
	if m.breaks() {
		return pick(m.Rand, "x", "lost", "art 9", "art 1000000")
	}
	switch unit {
	case "truth":
		return m.one("t true false")
	case "number":
		return pick(m.Rand, "n", "0", "7", "art 3", "weekday", "day", "month", "year")
	case "minutes":
		return pick(m.Rand, "m", "0 min", "480 min", "art 4")
	case "EUR":
		return pick(m.Rand, "e", "EUR 0.00", "EUR 12.50", "art 1")
	}
	return pick(m.Rand, "u", "USD 1.00", "art 2")
}

// source returns the text of a source with the articles 1 to 4. A wild one has its items in any order, and some of them are missing, occur twice or are others.
func (m maker) source() string {
	var items []string
	for _, item := range strings.Split(strings.TrimSpace(facts+lines), "; ") {
		items = append(items, m.declaration(strings.Trim(item, ";")))
	}
	for i := range 4 + m.Intn(3) {
		items = append(items, m.article(i%4+1))
	}
	if m.wild > 0 {
		m.Shuffle(len(items), func(i, j int) { items[i], items[j] = items[j], items[i] })
	}
	return strings.Join(items, "\n")
}

// declaration returns a fact or a line, and in a wild source any number of similar ones.
func (m maker) declaration(item string) string {
	text := item + ";"
	for m.breaks() {
		w := words(item)
		w[1], w[3] = m.one("t n m e x"), m.one(allUnits)
		if w[0] == "line" {
			w[4] = m.one("earn deduct floor info")
		}
		text = pick(m.Rand, "", text+" ") + strings.Join(w, " ") + ";"
	}
	return text
}

func (m maker) article(number int) string {
	line, unit := words("e u n m")[number-1], words("EUR USD number minutes")[number-1]
	others := slices.Delete(words("1 2 3 4"), number-1, number)
	if m.breaks() {
		number = 1 + m.Intn(6)
		others = words("1 2 3 9")
	}
	if m.breaks() {
		line = m.one("e u n m x")
	}
	clauses := []string{"amount " + m.expr(unit, 3)}
	for range m.Intn(3) {
		clauses = append(clauses, "when "+m.expr("truth", 3))
	}
	if m.Intn(2) == 0 {
		clauses = append(clauses, "unless "+strings.Join(others[m.Intn(3):], ", "))
	}
	m.Shuffle(len(clauses), func(i, j int) { clauses[i], clauses[j] = clauses[j], clauses[i] })
	return fmt.Sprint("article ", number, " for ", line, head, "{ ", strings.Join(clauses, "; "), "; }")
}

// readExpr returns the tree of an expression without errors of grammar.
func readExpr(t *testing.T, text string) api.Node {
	t.Helper()
	return readBy(t, parser.ParseExpr, text)
}

// read returns the tree of a source without errors of grammar.
func read(t *testing.T, text string) api.Node {
	t.Helper()
	return readBy(t, parser.Parse, text)
}

func readBy(t *testing.T, parse func(string) (api.Node, []api.Diag), text string) api.Node {
	t.Helper()
	n, diags := parse(text)
	if len(diags) > 0 {
		t.Fatal(text, diags)
	}
	return n
}

// samples calls a function with sources and expressions, some of them wild.
func samples(t *testing.T, seed int64, visit func(m maker, source, e api.Node)) {
	t.Helper()
	for i, wild := range []int{0, 4, 12, 40} {
		m := newMaker(seed*10+int64(i), wild)
		for range 250 {
			source := read(t, m.source())
			for range 4 {
				visit(m, source, readExpr(t, m.expr(m.one(allUnits), 4)))
			}
		}
	}
}

// edited returns a copy of a tree, of which each node was edited.
func edited(n api.Node, edit func(*api.Node)) api.Node {
	n.Kids = slices.Clone(n.Kids)
	n.Table.Pieces = slices.Clone(n.Table.Pieces)
	for i, kid := range n.Kids {
		n.Kids[i] = edited(kid, edit)
	}
	edit(&n)
	return n
}

// nodesOf returns pointers to all nodes of a tree.
func nodesOf(n *api.Node) []*api.Node {
	list := []*api.Node{n}
	for i := range n.Kids {
		list = append(list, nodesOf(&n.Kids[i])...)
	}
	return list
}
