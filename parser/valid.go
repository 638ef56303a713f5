package parser

import (
	"slices"

	"wageoffice/api"
)

const (
	maxNumber = 999_999_999_999 // a number, and cents without their point, have at most twelve digits
	curSize   = 3
)

// Valid reports whether a tree is one that Parse or ParseExpr can return without diagnostics, apart from offsets.
func Valid(n api.Node) bool {
	return fits(n) && (isSource(n) || isExpr(n))
}

// Strip returns the tree with all offsets 0.
func Strip(n api.Node) api.Node {
	n.At = 0
	n.Table.Pieces = slices.Clone(n.Table.Pieces)
	n.Kids = slices.Clone(n.Kids)
	for i, kid := range n.Kids {
		n.Kids[i] = Strip(kid)
	}
	return n
}

// fits reports whether a tree keeps the limits. It looks at no more nodes than these allow.
func fits(n api.Node) bool {
	nodes := 0
	var visit func(n api.Node, depth int) bool
	visit = func(n api.Node, depth int) bool {
		nodes++
		if nodes > api.MaxTree || depth > api.MaxDepth {
			return false
		}
		return all(n.Kids, func(kid api.Node) bool { return visit(kid, depth+1) })
	}
	return visit(n, 1)
}

func all(nodes []api.Node, test func(api.Node) bool) bool {
	for _, n := range nodes {
		if !test(n) {
			return false
		}
	}
	return true
}

// uses reports whether a node has no other fields than another one with the fields that its kind uses. Kind and At are not compared.
func uses(n, fields api.Node) bool {
	return n.Name == fields.Name && n.Unit == fields.Unit && n.N == fields.N &&
		n.From == fields.From && n.To == fields.To && n.Known == fields.Known &&
		n.Table.Den == fields.Table.Den && len(n.Table.Pieces) == len(fields.Table.Pieces) &&
		len(n.Kids) == len(fields.Kids)
}

func isSource(n api.Node) bool {
	return n.Kind == api.NodeSource && all(n.Kids, isItem) && uses(n, api.Node{Kids: n.Kids})
}

func isItem(n api.Node) bool {
	switch n.Kind {
	case api.NodeFact:
		return isName(n.Name) && isUnit(n.Unit) && uses(n, api.Node{Name: n.Name, Unit: n.Unit})
	case api.NodeLine:
		return isName(n.Name) && isUnit(n.Unit) && isRole(n.N) && uses(n, api.Node{Name: n.Name, Unit: n.Unit, N: n.N})
	case api.NodeArticle:
		return isArticle(n)
	}
	return false
}

func isArticle(n api.Node) bool {
	return isRatio(n.N) && isName(n.Name) && len(n.Kids) > 0 && isHead(n.Kids[0]) && all(n.Kids[1:], isClause) &&
		count(n.Kids, api.NodeAmount) == 1 && count(n.Kids, api.NodeUnless) <= 1 &&
		uses(n, api.Node{N: n.N, Name: n.Name, Kids: n.Kids})
}

func isHead(n api.Node) bool {
	return n.Kind == api.NodeHead && within(n.N, 0, api.MaxRatio) &&
		isDay(n.From) && within(n.To, n.From+1, api.MaxDay+1) && isDay(n.Known) &&
		uses(n, api.Node{N: n.N, From: n.From, To: n.To, Known: n.Known})
}

func isClause(n api.Node) bool {
	if !uses(n, api.Node{Kids: n.Kids}) {
		return false
	}
	switch n.Kind {
	case api.NodeWhen, api.NodeAmount:
		return len(n.Kids) == 1 && isExpr(n.Kids[0])
	case api.NodeUnless:
		return len(n.Kids) > 0 && all(n.Kids, isSmallNumber)
	}
	return false
}

func isExpr(n api.Node) bool {
	switch n.Kind {
	case api.NodeNumber:
		return isNumber(n)
	case api.NodeRef:
		return isName(n.Name) && uses(n, api.Node{Name: n.Name})
	case api.NodeArt:
		return isRatio(n.N) && uses(n, api.Node{N: n.N})
	case api.NodeDate:
		return isDatePart(n.Name) && uses(n, api.Node{Name: n.Name})
	case api.NodeNot:
		return len(n.Kids) == 1 && all(n.Kids, isExpr) && uses(n, api.Node{Kids: n.Kids})
	case api.NodeBinary:
		return isBinary(n)
	case api.NodeCall:
		return (n.Name == "least" || n.Name == "greatest") && len(n.Kids) >= 2 && all(n.Kids, isExpr) &&
			uses(n, api.Node{Name: n.Name, Kids: n.Kids})
	case api.NodeTable:
		return isFunc(n.Table) && len(n.Kids) == 1 && all(n.Kids, isExpr) && uses(n, api.Node{Table: n.Table, Kids: n.Kids})
	}
	return false
}

func isNumber(n api.Node) bool {
	greatest := maxNumber
	if n.Unit == api.UnitTruth {
		greatest = 1
	}
	return n.Kind == api.NodeNumber && isUnit(n.Unit) && within(n.N, 0, greatest) && uses(n, api.Node{N: n.N, Unit: n.Unit})
}

// isSmallNumber reports whether a node is the number of an article, or of those by which something is divided.
func isSmallNumber(n api.Node) bool {
	return isNumber(n) && n.Unit == api.UnitNumber && isRatio(n.N)
}

func isBinary(n api.Node) bool {
	if len(n.Kids) != 2 || !all(n.Kids, isExpr) || !uses(n, api.Node{Name: n.Name, Kids: n.Kids}) {
		return false
	}
	switch n.Name {
	case "or", "and", "==", "!=", "<", "<=", "+", "-", "*", "at":
		return true
	case "/":
		return isSmallNumber(n.Kids[1])
	}
	return false
}

// isFunc reports whether a table has a function. Every such function can be written, with its denominator in each piece.
func isFunc(f api.Func) bool {
	if !isRatio(f.Den) || !within(len(f.Pieces), 1, api.MaxPieces) || f.Pieces[0].From != 0 {
		return false
	}
	for i, p := range f.Pieces {
		if i > 0 && !within(p.From, f.Pieces[i-1].From+1, maxNumber) {
			return false
		}
		if p.At%f.Den != 0 || !within(p.At/f.Den, -maxNumber, maxNumber) || !within(p.Slope, -api.MaxRatio, api.MaxRatio) {
			return false
		}
	}
	return true
}

func within(n, least, greatest int) bool { return least <= n && n <= greatest }

func isRatio(n int) bool { return within(n, 1, api.MaxRatio) }

func isDay(n int) bool { return within(n, 0, api.MaxDay) }

func isRole(n int) bool {
	switch n {
	case api.RoleEarn, api.RoleDeduct, api.RoleFloor, api.RoleInfo:
		return true
	}
	return false
}

func isUnit(text string) bool {
	switch text {
	case api.UnitTruth, api.UnitNumber, api.UnitMinutes:
		return true
	}
	return isCurrency(text)
}

func isCurrency(text string) bool {
	for i := range len(text) {
		if text[i] < 'A' || 'Z' < text[i] {
			return false
		}
	}
	return len(text) == curSize
}

func isName(text string) bool {
	for i := range len(text) {
		if !isNameByte(text[i]) {
			return false
		}
	}
	return within(len(text), 1, api.MaxName) && isLetter(text[0]) && !isKeyWord(text)
}

func isLetter(b byte) bool { return 'a' <= b && b <= 'z' }

func isNameByte(b byte) bool { return isLetter(b) || '0' <= b && b <= '9' || b == '_' }

func isDatePart(text string) bool {
	switch text {
	case "weekday", "day", "month", "year":
		return true
	}
	return false
}

func isKeyWord(text string) bool {
	switch text {
	case "fact", "line", "article", "for", "rank", "from", "to", "known", "when", "unless", "amount",
		"truth", "number", "minutes", "min", "earn", "deduct", "floor", "info", "or", "and", "not", "at",
		"true", "false", "art", "weekday", "day", "month", "year", "least", "greatest", "table":
		return true
	}
	return false
}
