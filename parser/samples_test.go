package parser

import (
	"math/rand"
	"slices"
	"strconv"
	"strings"

	"wageoffice/api"
)

// What follows makes samples: tokens by the chapter's grammar, texts of these, trees, and texts of trees.

func names() []string {
	return []string{"x", "hours", "a1_", "b", "facts", "at_", "abcdefghijklmno1", "tables"}
}

func symbols() []string {
	return strings.Fields("== != <= >= < > + - * / ( ) { } : ; ,")
}

// vocabulary returns all key words and symbols, and other tokens.
func vocabulary() []string {
	other := []string{"x", "EUR", "0", "1", "64", "1000001", "0.00", "12.50", "2024-02-29", "2023-02-29", "2099-12-31"}
	return slices.Concat(strings.Fields(keyWords), symbols(), other)
}

func pick(rng *rand.Rand, list ...string) string { return list[rng.Intn(len(list))] }

// maker makes the tokens of samples by the grammar. Of wild values, one breaks a rule; without wild values none does, except that slopes and denominators can be too large.
type maker struct {
	rng    *rand.Rand
	rules  map[string]*part
	wild   int
	tokens []string
	from   string
	first  int
	pieces int
}

func newMaker(seed int64, wild int) *maker {
	return &maker{rng: rand.New(rand.NewSource(seed)), rules: rulesOf(grammar), wild: wild}
}

// sample returns the tokens of something that a rule of the grammar describes.
func (m *maker) sample(rule string, depth int) []string {
	m.tokens = nil
	m.make(m.rules[rule], depth)
	return m.tokens
}

// source returns the tokens of some items.
func (m *maker) source(items int) []string {
	var tokens []string
	for range items {
		tokens = append(tokens, m.sample("item", 3)...)
	}
	return tokens
}

func (m *maker) make(p *part, depth int) {
	switch p.op {
	case 't':
		m.tokens = append(m.tokens, m.token(p))
	case 'r':
		if p.word == "expr" {
			depth--
		}
		m.make(m.rules[p.word], depth)
	case '|':
		kids := p.kids
		if depth <= 0 {
			kids = slices.DeleteFunc(slices.Clone(kids), nests)
		}
		m.make(kids[m.rng.Intn(len(kids))], depth)
	case '&', '(':
		for _, kid := range p.kids {
			m.make(kid, depth)
		}
	case '[':
		if m.rng.Intn(3) == 0 {
			m.make(p.kids[0], depth)
		}
	case '{':
		if p.kids[0].kids[0].kids[0].word == "clause" {
			m.clauses()
			return
		}
		for m.rng.Intn(4) == 0 {
			m.make(p.kids[0], depth)
		}
	}
}

// nests reports whether a part of the grammar contains an expression.
func nests(p *part) bool {
	return p.op == 'r' && p.word == "expr" || slices.ContainsFunc(p.kids, nests)
}

// clauses makes the clauses of an article: one amount, and at most one exception.
func (m *maker) clauses() {
	l := []int{2}
	for range m.rng.Intn(3) {
		l = append(l, 0)
	}
	if m.rng.Intn(2) == 0 {
		l = append(l, 1)
	}
	if m.breaks() {
		l = append(l, 1+m.rng.Intn(2))
	}
	if m.breaks() {
		l = l[1:]
	}
	m.rng.Shuffle(len(l), func(i, j int) { l[i], l[j] = l[j], l[i] })
	for _, i := range l {
		m.make(m.rules["clause"].kids[i], 3)
	}
}

func (m *maker) breaks() bool { return m.wild > 0 && m.rng.Intn(m.wild) == 0 }

// token makes a token with a value that satisfies the rule for it, or breaks it.
func (m *maker) token(p *part) string {
	if p.rule == "pieces" {
		m.pieces = 0
	}
	if p.word[0] == '"' {
		return strings.Trim(p.word, `"`)
	}
	ordinary, wrong := m.texts(p)
	if m.breaks() && len(wrong) > 0 {
		return pick(m.rng, wrong...)
	}
	text := pick(m.rng, ordinary...)
	if p.rule == "from" {
		m.from = text
	}
	return text
}

// texts returns ordinary texts of a token, and those that break the rule for its value.
func (m *maker) texts(p *part) ([]string, []string) {
	days := []string{"2000-01-01", "2004-02-29", "2023-12-31", "2024-01-01", "2024-06-15"}
	noDays := []string{"2023-02-29", "1999-12-31", "2100-01-01", "2024-00-10", "2024-04-31"}
	switch p.rule {
	case "article":
		return []string{"1", "2", "14", "1000000"}, []string{"0", "1000001", "999999999999"}
	case "rank":
		return []string{"0", "2", "1000000"}, []string{"1000001", "999999999999"}
	case "divisor":
		return []string{"1", "3", "1000000"}, []string{"0", "1000001"}
	case "numerator":
		return []string{"0", "1", "7", "50000"}, []string{"1000000", "1000001"}
	case "denominator":
		return []string{"1", "2", "3", "4", "10"}, []string{"0", "1000001", "999983", "1000000"}
	case "from", "known":
		return days, noDays
	case "to":
		return []string{"2024-06-16", "2099-12-31"}, append(noDays, m.from)
	case "second":
		if p.word == "number" {
			return []string{"0"}, []string{"1", "999999999999"}
		}
	case "first":
		return m.firstTexts(p.word)
	}
	switch p.word {
	case "name":
		return names(), nil
	case "cur":
		return []string{"EUR", "USD", "ABC"}, nil
	case "number":
		return []string{"0", "1", "480", "999999999999"}, nil
	}
	return []string{"0.00", "0.05", "12.50", "9999999999.99"}, nil
}

// firstTexts makes the first value of a piece, which is greater than that of the piece before.
func (m *maker) firstTexts(word string) ([]string, []string) {
	before := m.first
	m.pieces++
	if m.pieces == 1 {
		m.first = 0
		if word == "number" {
			return []string{"0"}, []string{"1"}
		}
		return []string{"0.00"}, []string{"0.01"}
	}
	m.first += 1 + m.rng.Intn(500)
	text := centsText(m.first)
	return []string{text}, []string{centsText(before), "0", "1", strings.TrimLeft(text, "0.")}
}

// spread joins tokens with gaps of one kind or of several.
func spread(rng *rand.Rand, tokens []string, gaps ...string) string {
	text := ""
	for i, token := range tokens {
		if i > 0 {
			text += pick(rng, gaps...)
		}
		text += token
	}
	return text
}

// change changes some tokens: it leaves out, doubles, replaces or exchanges them.
func change(rng *rand.Rand, tokens []string) []string {
	tokens = slices.Clone(tokens)
	words := vocabulary()
	for range 1 + rng.Intn(3) {
		i, j := rng.Intn(len(tokens)), rng.Intn(len(tokens))
		switch rng.Intn(5) {
		case 0:
			if len(tokens) > 1 {
				tokens = slices.Delete(tokens, i, i+1)
			}
		case 1:
			tokens = slices.Insert(tokens, i, tokens[j])
		case 2:
			tokens[i] = pick(rng, words...)
		case 3:
			tokens = slices.Insert(tokens, i, pick(rng, words...))
		case 4:
			tokens[i], tokens[j] = tokens[j], tokens[i]
		}
	}
	return tokens
}

// texter writes trees, with parentheses around every operand and up to some further ones.
type texter struct {
	rng  *rand.Rand
	more int
}

func (x texter) enclose(text string) string {
	if x.more == 0 {
		return "(" + text + ")"
	}
	n := 1 + x.rng.Intn(x.more)
	return strings.Repeat("(", n) + text + strings.Repeat(")", n)
}

// expr returns a text of an expression; for a tree that is none, the text is that of another tree, or of none.
func (x texter) expr(n api.Node) string {
	var kids []string
	for _, kid := range n.Kids {
		kids = append(kids, x.expr(kid))
	}
	switch {
	case n.Kind == api.NodeNumber:
		return numberText(n)
	case n.Kind == api.NodeRef || n.Kind == api.NodeDate:
		return n.Name
	case n.Kind == api.NodeArt:
		return "art " + strconv.Itoa(n.N)
	case n.Kind == api.NodeNot && len(kids) > 0:
		return "not " + x.enclose(kids[0])
	case n.Kind == api.NodeBinary && n.Name == "/" && len(kids) > 1:
		return x.enclose(kids[0]) + " / " + kids[1]
	case n.Kind == api.NodeBinary && len(kids) > 1:
		return x.enclose(kids[0]) + " " + n.Name + " " + x.enclose(kids[1])
	case n.Kind == api.NodeCall:
		return n.Name + "(" + strings.Join(kids, ", ") + ")"
	case n.Kind == api.NodeTable && len(kids) > 0:
		return "table(" + kids[0] + "; " + tableText(n.Table) + ")"
	}
	return "none"
}

func numberText(n api.Node) string {
	switch {
	case n.Unit == "truth" && n.N == 1:
		return "true"
	case n.Unit == "truth" && n.N == 0:
		return "false"
	case n.Unit == "minutes":
		return strconv.Itoa(n.N) + " min"
	case n.Unit == "number":
		return strconv.Itoa(n.N)
	}
	return n.Unit + " " + centsText(n.N)
}

func centsText(cents int) string {
	digits := strconv.Itoa(cents)
	for len(digits) < 3 {
		digits = "0" + digits
	}
	return digits[:len(digits)-2] + "." + digits[len(digits)-2:]
}

func tableText(f api.Func) string {
	var pieces []string
	for _, p := range f.Pieces {
		at, slope, signs := 0, p.Slope, [2]string{"", " + "}
		if f.Den != 0 {
			at = p.At / f.Den
		}
		if at < 0 {
			at, signs[0] = -at, "- "
		}
		if slope < 0 {
			slope, signs[1] = -slope, " - "
		}
		pieces = append(pieces, centsText(p.From)+" : "+signs[0]+centsText(at)+signs[1]+strconv.Itoa(slope)+"/"+strconv.Itoa(f.Den))
	}
	return strings.Join(pieces, ", ")
}

// source returns a text of a source; for a tree that is none, the text is that of another tree, or of none.
func (x texter) source(n api.Node) string {
	text := ""
	for _, item := range n.Kids {
		role := "none"
		if 1 <= item.N && item.N <= 4 {
			role = []string{"earn", "deduct", "floor", "info"}[item.N-1]
		}
		switch item.Kind {
		case api.NodeFact:
			text += "fact " + item.Name + " : " + item.Unit + ";\n"
		case api.NodeLine:
			text += "line " + item.Name + " : " + item.Unit + " " + role + ";\n"
		case api.NodeArticle:
			text += "article " + strconv.Itoa(item.N) + " for " + item.Name + x.articleRest(item.Kids)
		default:
			text += "none"
		}
	}
	return text
}

func (x texter) articleRest(kids []api.Node) string {
	if len(kids) == 0 {
		return "none"
	}
	head := kids[0]
	text := " rank " + strconv.Itoa(head.N) + " from " + dateText(head.From)
	if head.To != noEnd {
		text += " to " + dateText(head.To)
	}
	text += " known " + dateText(head.Known) + " {\n"
	for _, clause := range kids[1:] {
		var l []string
		for _, kid := range clause.Kids {
			l = append(l, x.expr(kid))
		}
		word := map[int]string{api.NodeWhen: "when", api.NodeUnless: "unless", api.NodeAmount: "amount"}[clause.Kind]
		text += word + " " + strings.Join(l, ", ") + ";\n"
	}
	return text + "}\n"
}

func dateText(day int) string {
	for year := 2000; year < 2100 && day >= 0; year++ {
		for month, length := range []int{31, 28, 31, 30, 31, 30, 31, 31, 30, 31, 30, 31} {
			if month == 1 && year%4 == 0 {
				length = 29
			}
			if day < length {
				return strconv.Itoa(year) + "-" + strconv.Itoa(101 + month)[1:] + "-" + strconv.Itoa(101 + day)[1:]
			}
			day -= length
		}
	}
	return "none"
}

// exprSample returns a valid tree of an expression.
func exprSample(rng *rand.Rand, depth int) api.Node {
	kids := func(n int) []api.Node {
		var l []api.Node
		for range n {
			l = append(l, exprSample(rng, depth-1))
		}
		return l
	}
	kind := rng.Intn(10)
	if depth == 0 {
		kind = rng.Intn(5)
	}
	switch kind {
	case 0:
		return api.Node{Kind: api.NodeNumber, N: rng.Intn(2), Unit: "truth"}
	case 1:
		return api.Node{Kind: api.NodeNumber, N: []int{0, 7, 999999999999}[rng.Intn(3)], Unit: pick(rng, "number", "minutes", "EUR", "ZZZ")}
	case 2:
		return api.Node{Kind: api.NodeRef, Name: pick(rng, names()...)}
	case 3:
		return api.Node{Kind: api.NodeArt, N: []int{1, 14, 1000000}[rng.Intn(3)]}
	case 4:
		return api.Node{Kind: api.NodeDate, Name: pick(rng, "weekday", "day", "month", "year")}
	case 5:
		return api.Node{Kind: api.NodeNot, Kids: kids(1)}
	case 6:
		return api.Node{Kind: api.NodeCall, Name: pick(rng, "least", "greatest"), Kids: kids(2 + rng.Intn(2))}
	case 7:
		return api.Node{Kind: api.NodeTable, Table: tableSample(rng), Kids: kids(1)}
	case 8:
		return api.Node{Kind: api.NodeBinary, Name: "/", Kids: append(kids(1), numberSample(rng))}
	}
	return api.Node{Kind: api.NodeBinary, Name: pick(rng, "or", "and", "==", "!=", "<", "<=", "+", "-", "*", "at"), Kids: kids(2)}
}

func numberSample(rng *rand.Rand) api.Node {
	return api.Node{Kind: api.NodeNumber, N: []int{1, 3, 1000000}[rng.Intn(3)], Unit: "number"}
}

func tableSample(rng *rand.Rand) api.Func {
	f := api.Func{Den: []int{1, 2, 12, 1000000}[rng.Intn(4)]}
	from := 0
	for range 1 + rng.Intn(3) {
		at := []int{0, 1, -250, 999999999999, -999999999999}[rng.Intn(5)]
		slope := []int{0, 1, -3, 1000000, -1000000}[rng.Intn(5)]
		f.Pieces = append(f.Pieces, api.Piece{From: from, At: at * f.Den, Slope: slope})
		from += 1 + rng.Intn(1000)
	}
	if rng.Intn(3) == 0 {
		f.Pieces = append(f.Pieces, api.Piece{From: 999999999999, At: f.Den})
	}
	return f
}

// sourceSample returns a valid tree of a source.
func sourceSample(rng *rand.Rand) api.Node {
	n := api.Node{Kind: api.NodeSource}
	for range rng.Intn(4) {
		unit := pick(rng, "truth", "number", "minutes", "EUR")
		switch rng.Intn(4) {
		case 0:
			n.Kids = append(n.Kids, api.Node{Kind: api.NodeFact, Name: pick(rng, names()...), Unit: unit})
		case 1:
			n.Kids = append(n.Kids, api.Node{Kind: api.NodeLine, Name: pick(rng, names()...), Unit: unit, N: 1 + rng.Intn(4)})
		default:
			n.Kids = append(n.Kids, articleSample(rng))
		}
	}
	return n
}

func articleSample(rng *rand.Rand) api.Node {
	from := []int{0, 8780, 36524}[rng.Intn(3)]
	to := []int{from + 1, noEnd, 36525}[rng.Intn(3)]
	clauses := []api.Node{{Kind: api.NodeAmount, Kids: []api.Node{exprSample(rng, 2)}}}
	for range rng.Intn(3) {
		clauses = append(clauses, api.Node{Kind: api.NodeWhen, Kids: []api.Node{exprSample(rng, 2)}})
	}
	if rng.Intn(2) == 0 {
		unless := api.Node{Kind: api.NodeUnless}
		for range 1 + rng.Intn(3) {
			unless.Kids = append(unless.Kids, numberSample(rng))
		}
		clauses = append(clauses, unless)
	}
	rng.Shuffle(len(clauses), func(i, j int) { clauses[i], clauses[j] = clauses[j], clauses[i] })
	head := api.Node{Kind: api.NodeHead, N: []int{0, 2, 1000000}[rng.Intn(3)], From: from, To: to, Known: []int{0, 9000, 36524}[rng.Intn(3)]}
	return api.Node{Kind: api.NodeArticle, N: 1 + rng.Intn(20), Name: pick(rng, names()...), Kids: append([]api.Node{head}, clauses...)}
}

// nodesOf returns pointers to all nodes of a tree.
func nodesOf(n *api.Node) []*api.Node {
	l := []*api.Node{n}
	for i := range n.Kids {
		l = append(l, nodesOf(&n.Kids[i])...)
	}
	return l
}

// spoil changes a field of a node.
func spoil(rng *rand.Rand, n *api.Node) {
	numbers := []int{-1 << 63, -1, 0, 1, 2, 4, 5, 36524, 36525, 36526, 1000000, 1000001, 999999999999, 1000000000000, 1<<63 - 1}
	number := numbers[rng.Intn(len(numbers))]
	texts := append(strings.Fields(keyWords), "", "x", "X", "1", "_a", "a-b", "a b", "abcdefghijklmnop", "abcdefghijklmnopq", "é", "EUR", "EU", "EURO", "EuR", "E1R",
		"==", "!=", "<", "<=", ">", ">=", "+", "-", "*", "/", "x ", " x")
	text := pick(rng, texts...)
	switch rng.Intn(12) {
	case 0:
		n.Kind = rng.Intn(21) - 1
	case 1, 2:
		n.Name = text
	case 3, 4:
		n.Unit = text
	case 5, 6:
		n.N = number
	case 7:
		n.From = number
	case 8:
		n.To = number
	case 9:
		n.Known = number
	case 10:
		spoilTable(rng, &n.Table, number)
	case 11:
		spoilKids(rng, n)
	}
}

func spoilTable(rng *rand.Rand, f *api.Func, number int) {
	if rng.Intn(4) == 0 || len(f.Pieces) == 0 {
		f.Den = []int{number, 1, 2, 3}[rng.Intn(4)]
		return
	}
	i := rng.Intn(len(f.Pieces))
	switch rng.Intn(6) {
	case 0:
		f.Pieces = slices.Delete(f.Pieces, i, i+1)
	case 1:
		f.Pieces = append(f.Pieces, f.Pieces[i])
	case 2:
		f.Pieces[i].From = number
	case 3:
		f.Pieces[i].At = number
	case 4:
		f.Pieces[i].At = f.Den * []int{999999999999, 1000000000000, -999999999999, -1000000000000, 5}[rng.Intn(5)]
	case 5:
		f.Pieces[i].Slope = []int{number, -1000000, -1000001}[rng.Intn(3)]
	}
}

func spoilKids(rng *rand.Rand, n *api.Node) {
	if len(n.Kids) == 0 || rng.Intn(4) == 0 {
		n.Kids = append(n.Kids, []api.Node{exprSample(rng, 1), numberSample(rng), articleSample(rng), {Kind: api.NodeFact, Name: "x", Unit: "EUR"}}[rng.Intn(4)])
		return
	}
	i := rng.Intn(len(n.Kids))
	switch rng.Intn(3) {
	case 0:
		n.Kids = slices.Delete(n.Kids, i, i+1)
	case 1:
		n.Kids = append(n.Kids, Strip(n.Kids[i]))
	case 2:
		n.Kids[i] = exprSample(rng, 1)
	}
}
