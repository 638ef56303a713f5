package parser

import (
	"strings"

	"wageoffice/api"
)

// The levels of binary operators, beginning with those that bind least.
const (
	orLevel = iota
	andLevel
	compareLevel
	sumLevel
	termLevel
)

var operators = [...][]string{
	orLevel:      {"or"},
	andLevel:     {"and"},
	compareLevel: {"==", "!=", "<", "<=", ">", ">="},
	sumLevel:     {"+", "-"},
	termLevel:    {"*", "at", "/"},
}

// wholeExpr reads an expression after which there is nothing.
func (r *reader) wholeExpr() api.Node {
	n := r.expr()
	if !r.ended() {
		panic(r.unexpected())
	}
	return n
}

// expr reads an expression. What the operators of a level join is read by the function for the level that binds more.
func (r *reader) expr() api.Node {
	read := r.atom
	for level := len(operators) - 1; level >= 0; level-- {
		operand := read
		read = func() api.Node { return r.chain(level, operand) }
	}
	return read()
}

// chain reads operands that are joined by operators of a level.
func (r *reader) chain(level int, operand func() api.Node) api.Node {
	if level == compareLevel && r.is("not") {
		not := api.Node{Kind: api.NodeNot, At: r.take().At}
		not.Kids = []api.Node{r.chain(level, operand)}
		return not
	}
	n := operand()
	for r.isOperator(level) {
		n = r.join(n, operand)
		if level == compareLevel {
			break
		}
	}
	return n
}

func (r *reader) isOperator(level int) bool {
	for _, operator := range operators[level] {
		if r.is(operator) {
			return true
		}
	}
	return false
}

// join reads an operator and its right operand.
func (r *reader) join(left api.Node, operand func() api.Node) api.Node {
	operator := r.take().Text
	if operator == "/" {
		operand = r.divisor
	}
	n := api.Node{Kind: api.NodeBinary, Name: operator, Kids: []api.Node{left, operand()}, At: left.At}
	if operator == ">" || operator == ">=" {
		n.Name = strings.Replace(operator, ">", "<", 1)
		n.Kids[0], n.Kids[1] = n.Kids[1], n.Kids[0]
	}
	return n
}

func (r *reader) divisor() api.Node { return r.number(1, api.MaxRatio) }

func (r *reader) atom() api.Node {
	switch r.next().Kind {
	case api.TokenNumber:
		return r.quantity()
	case api.TokenCur:
		return r.money()
	case api.TokenName:
		return r.word()
	}
	r.expect("(")
	n := r.expr()
	r.expect(")")
	return n
}

// quantity reads a number or minutes.
func (r *reader) quantity() api.Node {
	n := r.number(0, maxNumber)
	if r.is("min") {
		r.take()
		n.Unit = api.UnitMinutes
	}
	return n
}

func (r *reader) money() api.Node {
	cur := r.take()
	return api.Node{Kind: api.NodeNumber, N: r.cents(), Unit: cur.Text, At: cur.At}
}

// word reads an atom that begins with a name or a key word.
func (r *reader) word() api.Node {
	switch word := r.next(); word.Text {
	case "true":
		return api.Node{Kind: api.NodeNumber, N: 1, Unit: api.UnitTruth, At: r.take().At}
	case "false":
		return api.Node{Kind: api.NodeNumber, N: 0, Unit: api.UnitTruth, At: r.take().At}
	case "art":
		r.take()
		return api.Node{Kind: api.NodeArt, N: r.articleNumber().N, At: word.At}
	case "weekday", "day", "month", "year":
		return api.Node{Kind: api.NodeDate, Name: r.take().Text, At: word.At}
	case "least", "greatest":
		return r.call()
	case "table":
		return r.table()
	default:
		return api.Node{Kind: api.NodeRef, Name: r.name(), At: word.At}
	}
}

func (r *reader) call() api.Node {
	word := r.take()
	n := api.Node{Kind: api.NodeCall, Name: word.Text, At: word.At}
	r.expect("(")
	n.Kids = []api.Node{r.expr()}
	r.expect(",")
	r.list(func() { n.Kids = append(n.Kids, r.expr()) })
	r.expect(")")
	return n
}
