package printer

import (
	"fmt"
	"slices"
	"strings"
	"testing"
	"time"

	"wageoffice/api"
	"wageoffice/lexer"
	"wageoffice/parser"
)

// What follows is a second definition of canonical texts. It knows no levels: parentheses around an operand are removed if the text is still parsed to the same tree.

const noEnd = 36525

// Of parentheses that may be removed, these are the marks. No token contains them.
const (
	opening = "["
	closing = "]"
)

// same reports whether two trees are the same, apart from offsets. A nil slice equals an empty one.
func same(a, b api.Node) bool {
	return a.Kind == b.Kind && a.Name == b.Name && a.Unit == b.Unit && a.N == b.N &&
		a.From == b.From && a.To == b.To && a.Known == b.Known &&
		a.Table.Den == b.Table.Den && slices.Equal(a.Table.Pieces, b.Table.Pieces) && slices.EqualFunc(a.Kids, b.Kids, same)
}

// key returns a text that is the same for two trees if and only if they are the same, apart from offsets.
func key(n api.Node) string { return fmt.Sprintf("%+v", parser.Strip(n)) }

func tokenCount(t *testing.T, text string) int {
	t.Helper()
	tokens, err, _ := lexer.Lex(text)
	if err != api.OK {
		t.Fatalf("%q: %v", text, err)
	}
	return len(tokens)
}

// exprBy returns the canonical text of an expression.
func exprBy(n api.Node) string {
	text := markedBy(n)
	for {
		begin := strings.Index(text, opening)
		if begin < 0 {
			return text
		}
		end := closingOf(text, begin)
		without := text[:begin] + text[begin+1:end] + text[end+1:]
		if tree, diags := parser.ParseExpr(enclosed(without)); len(diags) == 0 && same(tree, n) {
			text = without
		} else {
			text = text[:begin] + "(" + text[begin+1:end] + ")" + text[end+1:]
		}
	}
}

func enclosed(text string) string {
	return strings.NewReplacer(opening, "(", closing, ")").Replace(text)
}

// closingOf returns the index of the mark that closes what a mark opens.
func closingOf(text string, begin int) int {
	depth := 0
	for i := begin; ; i++ {
		switch text[i : i+1] {
		case opening:
			depth++
		case closing:
			depth--
		}
		if depth == 0 {
			return i
		}
	}
}

// markedBy returns the text of an expression with marks around all operands that may be in parentheses: the number behind / never is.
func markedBy(n api.Node) string {
	var kids []string
	for _, kid := range n.Kids {
		kids = append(kids, markedBy(kid))
	}
	switch n.Kind {
	case api.NodeNumber:
		return numberBy(n)
	case api.NodeArt:
		return fmt.Sprintf("art %d", n.N)
	case api.NodeNot:
		return "not " + opening + kids[0] + closing
	case api.NodeBinary:
		if n.Name != "/" {
			kids[1] = opening + kids[1] + closing
		}
		return opening + kids[0] + closing + " " + n.Name + " " + kids[1]
	case api.NodeCall:
		return n.Name + "(" + strings.Join(kids, ", ") + ")"
	case api.NodeTable:
		return "table(" + kids[0] + "; " + strings.Join(piecesBy(n.Table), ", ") + ")"
	}
	return n.Name
}

func numberBy(n api.Node) string {
	switch n.Unit {
	case "truth":
		return []string{"false", "true"}[n.N]
	case "number":
		return fmt.Sprint(n.N)
	case "minutes":
		return fmt.Sprint(n.N, " min")
	}
	return n.Unit + " " + centsBy(n.N)
}

// centsBy puts a point before the last two of at least three digits.
func centsBy(cents int) string {
	digits := fmt.Sprintf("%03d", max(cents, -cents))
	text := digits[:len(digits)-2] + "." + digits[len(digits)-2:]
	if cents < 0 {
		return "-" + text
	}
	return text
}

func piecesBy(f api.Func) []string {
	var texts []string
	for _, p := range f.Pieces {
		slope := fmt.Sprintf("%+d/%d", p.Slope, f.Den)
		texts = append(texts, centsBy(p.From)+" : "+centsBy(p.At/f.Den)+" "+slope[:1]+" "+slope[1:])
	}
	return texts
}

// sourceBy returns the canonical text of a source.
func sourceBy(n api.Node) string {
	text := ""
	for _, item := range n.Kids {
		switch item.Kind {
		case api.NodeFact:
			text += fmt.Sprintf("fact %s : %s;\n", item.Name, item.Unit)
		case api.NodeLine:
			text += fmt.Sprintf("line %s : %s %s;\n", item.Name, item.Unit, []string{"", "earn", "deduct", "floor", "info"}[item.N])
		case api.NodeArticle:
			text += articleBy(item)
		}
	}
	return text
}

func articleBy(n api.Node) string {
	head, to := n.Kids[0], ""
	if head.To != noEnd {
		to = " to " + dateBy(head.To)
	}
	text := fmt.Sprintf("article %d for %s rank %d from %s%s known %s {\n", n.N, n.Name, head.N, dateBy(head.From), to, dateBy(head.Known))
	for _, clause := range n.Kids[1:] {
		var kids []string
		for _, kid := range clause.Kids {
			kids = append(kids, exprBy(kid))
		}
		word := map[int]string{api.NodeWhen: "when", api.NodeUnless: "unless", api.NodeAmount: "amount"}[clause.Kind]
		text += fmt.Sprintf("  %s %s;\n", word, strings.Join(kids, ", "))
	}
	return text + "}\n"
}

func dateBy(day int) string {
	return time.Date(2000, 1, 1+day, 0, 0, 0, 0, time.UTC).Format(time.DateOnly)
}
