package printer

import (
	"strconv"
	"strings"

	"wageoffice/api"
)

// The levels of expressions, beginning with those that bind least.
const (
	orLevel = iota
	andLevel
	notLevel
	compareLevel
	sumLevel
	termLevel
	atomLevel
)

// places has, for each level, the least levels of operands in the first and in the second place that need no parentheses. They differ where operators associate to the left. There is no second place behind a not.
var places = [...][2]int{
	orLevel:      {orLevel, andLevel},
	andLevel:     {andLevel, notLevel},
	notLevel:     {notLevel},
	compareLevel: {sumLevel, sumLevel},
	sumLevel:     {sumLevel, termLevel},
	termLevel:    {termLevel, atomLevel},
}

// operatorLevels returns the levels of binary operators.
func operatorLevels() map[string]int {
	return map[string]int{
		"or": orLevel, "and": andLevel,
		"==": compareLevel, "!=": compareLevel, "<": compareLevel, "<=": compareLevel,
		"+": sumLevel, "-": sumLevel,
		"*": termLevel, "/": termLevel, "at": termLevel,
	}
}

func (p *printer) level(n api.Node) int {
	switch n.Kind {
	case api.NodeNot:
		return notLevel
	case api.NodeBinary:
		return p.levels[n.Name]
	}
	return atomLevel
}

func (p *printer) expr(n api.Node) {
	switch n.Kind {
	case api.NodeNumber:
		p.WriteString(numberText(n))
	case api.NodeRef, api.NodeDate:
		p.WriteString(n.Name)
	case api.NodeArt:
		p.WriteString("art " + strconv.Itoa(n.N))
	case api.NodeNot:
		p.WriteString("not ")
		p.operand(n, 0)
	case api.NodeBinary:
		p.operand(n, 0)
		p.WriteString(" " + n.Name + " ")
		p.operand(n, 1)
	case api.NodeCall:
		p.WriteString(n.Name + "(")
		p.exprs(n.Kids)
		p.WriteString(")")
	case api.NodeTable:
		p.WriteString("table(")
		p.expr(n.Kids[0])
		p.WriteString("; " + functionText(n.Table) + ")")
	}
}

// operand writes the operand of a node that is in a place.
func (p *printer) operand(n api.Node, place int) {
	kid := n.Kids[place]
	if p.level(kid) >= places[p.level(n)][place] {
		p.expr(kid)
		return
	}
	p.WriteString("(")
	p.expr(kid)
	p.WriteString(")")
}

// exprs writes expressions with commas between them.
func (p *printer) exprs(list []api.Node) {
	for i, n := range list {
		if i > 0 {
			p.WriteString(", ")
		}
		p.expr(n)
	}
}

func numberText(n api.Node) string {
	switch n.Unit {
	case api.UnitTruth:
		return strconv.FormatBool(n.N == 1)
	case api.UnitNumber:
		return strconv.Itoa(n.N)
	case api.UnitMinutes:
		return strconv.Itoa(n.N) + " min"
	}
	return n.Unit + " " + centsText(n.N)
}

// functionText returns the text of all pieces of a table.
func functionText(f api.Func) string {
	var pieces []string
	for _, p := range f.Pieces {
		sign, slope := " + ", p.Slope
		if slope < 0 {
			sign, slope = " - ", -slope
		}
		fraction := strconv.Itoa(slope) + "/" + strconv.Itoa(f.Den)
		pieces = append(pieces, centsText(p.From)+" : "+centsText(p.At/f.Den)+sign+fraction)
	}
	return strings.Join(pieces, ", ")
}

// centsText returns the text of cents with two decimals. The sign is written apart, because a number of whole units can be 0.
func centsText(cents int) string {
	sign := ""
	if cents < 0 {
		sign, cents = "-", -cents
	}
	return sign + strconv.Itoa(cents/100) + "." + strconv.Itoa(cents/10%10) + strconv.Itoa(cents%10)
}
