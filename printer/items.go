package printer

import (
	"strconv"

	"wageoffice/api"
	"wageoffice/calendar"
)

func (p *printer) item(n api.Node) {
	switch n.Kind {
	case api.NodeFact:
		p.WriteString("fact " + n.Name + " : " + n.Unit + ";\n")
	case api.NodeLine:
		p.WriteString("line " + n.Name + " : " + n.Unit + " " + roleText(n.N) + ";\n")
	case api.NodeArticle:
		p.article(n)
	}
}

func roleText(role int) string {
	switch role {
	case api.RoleEarn:
		return "earn"
	case api.RoleDeduct:
		return "deduct"
	case api.RoleFloor:
		return "floor"
	}
	return "info"
}

func (p *printer) article(n api.Node) {
	p.WriteString("article " + strconv.Itoa(n.N) + " for " + n.Name + " " + headText(n.Kids[0]) + " {\n")
	for _, clause := range n.Kids[1:] {
		p.WriteString("  " + clauseText(clause.Kind) + " ")
		p.exprs(clause.Kids)
		p.WriteString(";\n")
	}
	p.WriteString("}\n")
}

func headText(n api.Node) string {
	text := "rank " + strconv.Itoa(n.N) + " from " + calendar.Text(n.From)
	// The day after the last one has no date.
	if n.To <= api.MaxDay {
		text += " to " + calendar.Text(n.To)
	}
	return text + " known " + calendar.Text(n.Known)
}

// clauseText returns the key word with which the clauses of a kind begin.
func clauseText(kind int) string {
	switch kind {
	case api.NodeWhen:
		return "when"
	case api.NodeUnless:
		return "unless"
	}
	return "amount"
}
