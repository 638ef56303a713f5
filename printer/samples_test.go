package printer

import (
	"math/rand"
	"slices"
	"strings"

	"wageoffice/api"
)

// What follows makes samples: valid trees, trees with spoiled fields, and texts that are not canonical.

func words(text string) []string { return strings.Fields(text) }

func pick[T any](rng *rand.Rand, list ...T) T { return list[rng.Intn(len(list))] }

func name(rng *rand.Rand) string { return pick(rng, words("a x hours facts at_ abcdefghijklmno1")...) }

func ref(name string) api.Node { return api.Node{Kind: api.NodeRef, Name: name} }

func number(n int, unit string) api.Node { return api.Node{Kind: api.NodeNumber, N: n, Unit: unit} }

func not(n api.Node) api.Node { return api.Node{Kind: api.NodeNot, Kids: []api.Node{n}} }

func binary(operator string, left, right api.Node) api.Node {
	return api.Node{Kind: api.NodeBinary, Name: operator, Kids: []api.Node{left, right}}
}

func call(kids ...api.Node) api.Node {
	return api.Node{Kind: api.NodeCall, Name: "least", Kids: kids}
}

func table(den int, pieces ...api.Piece) api.Node {
	return api.Node{Kind: api.NodeTable, Table: api.Func{Den: den, Pieces: pieces}, Kids: []api.Node{ref("a")}}
}

func source(items ...api.Node) api.Node { return api.Node{Kind: api.NodeSource, Kids: items} }

func fact(name, unit string) api.Node { return api.Node{Kind: api.NodeFact, Name: name, Unit: unit} }

func article(kids ...api.Node) api.Node {
	return api.Node{Kind: api.NodeArticle, N: 7, Name: "b", Kids: kids}
}

func head(rank, from, to, known int) api.Node {
	return api.Node{Kind: api.NodeHead, N: rank, From: from, To: to, Known: known}
}

func clause(kind int, kids ...api.Node) api.Node { return api.Node{Kind: kind, Kids: kids} }

// exprSample returns an expression.
func exprSample(rng *rand.Rand, depth int) api.Node {
	sample := func() api.Node { return exprSample(rng, depth-1) }
	if depth == 0 || rng.Intn(5) == 0 {
		return atomSample(rng)
	}
	switch rng.Intn(12) {
	case 0, 1, 2:
		return not(sample())
	case 3:
		n := call(sample(), sample())
		n.Name = pick(rng, "least", "greatest")
		if rng.Intn(2) == 0 {
			n.Kids = append(n.Kids, sample())
		}
		return n
	case 4:
		n := tableSample(rng)
		n.Kids[0] = sample()
		return n
	case 5:
		return binary("/", sample(), number(pick(rng, 1, 3, 1000000), "number"))
	}
	return binary(pick(rng, words("or or and and == != < <= + - * at")...), sample(), sample())
}

func atomSample(rng *rand.Rand) api.Node {
	switch rng.Intn(6) {
	case 0:
		return number(rng.Intn(2), "truth")
	case 1:
		return number(pick(rng, 0, 5, 99, 100, 999999999999), pick(rng, "number", "minutes", "EUR", "ZZZ"))
	case 2:
		return api.Node{Kind: api.NodeArt, N: pick(rng, 1, 14, 1000000)}
	case 3:
		return api.Node{Kind: api.NodeDate, Name: pick(rng, "weekday", "day", "month", "year")}
	}
	return ref(name(rng))
}

func tableSample(rng *rand.Rand) api.Node {
	n := table(pick(rng, 1, 2, 20, 1000000))
	from := 0
	for range 1 + rng.Intn(3) {
		at := n.Table.Den * pick(rng, 0, 1, -1, 99, -99, 100, -250, 999999999999, -999999999999)
		n.Table.Pieces = append(n.Table.Pieces, api.Piece{From: from, At: at, Slope: pick(rng, 0, 1, -1, -3, 1000000, -1000000)})
		from += 1 + rng.Intn(300)
	}
	return n
}

// sourceSample returns a source.
func sourceSample(rng *rand.Rand, items int) api.Node {
	n := source()
	for range items {
		item := fact(name(rng), pick(rng, "truth", "number", "minutes", "EUR"))
		switch rng.Intn(3) {
		case 0:
			item.Kind, item.N = api.NodeLine, 1+rng.Intn(4)
		case 1:
			item = articleSample(rng)
		}
		n.Kids = append(n.Kids, item)
	}
	return n
}

func articleSample(rng *rand.Rand) api.Node {
	clauses := []api.Node{clause(api.NodeAmount, exprSample(rng, 3))}
	for range rng.Intn(3) {
		clauses = append(clauses, clause(api.NodeWhen, exprSample(rng, 3)))
	}
	if rng.Intn(2) == 0 {
		unless := clause(api.NodeUnless)
		for range 1 + rng.Intn(3) {
			unless.Kids = append(unless.Kids, number(pick(rng, 1, 14, 1000000), "number"))
		}
		clauses = append(clauses, unless)
	}
	rng.Shuffle(len(clauses), func(i, j int) { clauses[i], clauses[j] = clauses[j], clauses[i] })
	from := pick(rng, 0, 8780, 36524)
	first := head(pick(rng, 0, 2, 1000000), from, pick(rng, from+1, noEnd), pick(rng, 0, 9000, 36524))
	n := article(slices.Insert(clauses, 0, first)...)
	n.N, n.Name = 1+rng.Intn(20), name(rng)
	return n
}

// nodesOf returns pointers to all nodes of a tree.
func nodesOf(n *api.Node) []*api.Node {
	l := []*api.Node{n}
	for i := range n.Kids {
		l = append(l, nodesOf(&n.Kids[i])...)
	}
	return l
}

// spoil changes a field of a node.
func spoil(rng *rand.Rand, n *api.Node) {
	value := pick(rng, -1<<63, -1, 0, 1, 2, 5, 36525, 1000001, 1000000000000, 1<<63-1)
	text := pick(rng, append(words("a A art table or not == > - / EUR EURO number truth abcdefghijklmnopq é"), "", "a b", "(a)")...)
	switch rng.Intn(10) {
	case 0:
		n.Kind = rng.Intn(21) - 1
	case 1:
		n.Name = text
	case 2:
		n.Unit = text
	case 3:
		n.N = value
	case 4:
		n.From = value
	case 5:
		n.To = value
	case 6:
		n.Known = value
	case 7:
		n.Table.Den = value
	case 8:
		n.Table.Pieces = append(n.Table.Pieces, api.Piece{From: value, At: value, Slope: value})
	case 9:
		if len(n.Kids) > 0 && rng.Intn(2) == 0 {
			n.Kids = n.Kids[1:]
		} else {
			n.Kids = append(n.Kids, pick(rng, ref("a"), fact("a", "EUR"), source()))
		}
	}
}

// looseText returns a text that is parsed to a tree, with some more parentheses than its canonical text, and with exchanged comparisons.
func looseText(rng *rand.Rand, n api.Node) string {
	if n.Kind == api.NodeBinary && n.Name[0] == '<' && rng.Intn(2) == 0 {
		n.Name = strings.Replace(n.Name, "<", ">", 1)
		n.Kids = []api.Node{n.Kids[1], n.Kids[0]}
	}
	var kids []string
	for i, kid := range n.Kids {
		text := looseText(rng, kid)
		operand := n.Kind == api.NodeNot || n.Kind == api.NodeBinary
		if n.Name != "/" || i == 0 {
			switch {
			case operand && (len(kid.Kids) > 0 || rng.Intn(4) == 0):
				text = "(" + text + ")"
			case !operand && rng.Intn(2) == 0:
				text = "((" + text + "))"
			}
		}
		kids = append(kids, text)
	}
	switch n.Kind {
	case api.NodeNot:
		return "not " + kids[0]
	case api.NodeBinary:
		return kids[0] + " " + n.Name + " " + kids[1]
	case api.NodeCall:
		return n.Name + "(" + strings.Join(kids, ",") + ")"
	case api.NodeTable:
		return "table(" + kids[0] + ";" + strings.ReplaceAll(strings.Join(piecesBy(n.Table), ","), " 0.00", " 0") + ")"
	}
	return markedBy(n)
}
