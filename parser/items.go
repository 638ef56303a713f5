package parser

import "wageoffice/api"

// skipToItem passes over all tokens before the next one that begins an item.
func (r *reader) skipToItem() {
	for !r.ended() && !r.is("fact") && !r.is("line") && !r.is("article") {
		r.take()
	}
}

func (r *reader) item() api.Node {
	switch r.next().Text {
	case "fact":
		return r.fact()
	case "line":
		return r.line()
	case "article":
		return r.article()
	}
	panic(r.unexpected())
}

func (r *reader) fact() api.Node {
	n := r.declaration(api.NodeFact)
	r.expect(";")
	return n
}

func (r *reader) line() api.Node {
	n := r.declaration(api.NodeLine)
	n.N = r.role()
	r.expect(";")
	return n
}

// declaration reads what a fact and a line begin with.
func (r *reader) declaration(kind int) api.Node {
	n := api.Node{Kind: kind, At: r.take().At}
	n.Name = r.name()
	r.expect(":")
	n.Unit = r.unit()
	return n
}

func (r *reader) role() int {
	role := roleOf(r.next().Text)
	if role == 0 {
		panic(r.unexpected())
	}
	r.take()
	return role
}

// roleOf returns the role that a key word stands for, or 0.
func roleOf(word string) int {
	switch word {
	case "earn":
		return api.RoleEarn
	case "deduct":
		return api.RoleDeduct
	case "floor":
		return api.RoleFloor
	case "info":
		return api.RoleInfo
	}
	return 0
}

func (r *reader) article() api.Node {
	n := api.Node{Kind: api.NodeArticle, At: r.take().At}
	n.N = r.articleNumber().N
	r.expect("for")
	n.Name = r.name()
	n.Kids = []api.Node{r.head()}
	r.expect("{")
	for !r.is("}") || !has(n.Kids, api.NodeAmount) {
		n.Kids = append(n.Kids, r.clause(n.Kids))
	}
	r.take()
	return n
}

func (r *reader) head() api.Node {
	n := api.Node{Kind: api.NodeHead, To: api.MaxDay + 1, At: r.expect("rank").At}
	n.N = r.number(0, api.MaxRatio).N
	r.expect("from")
	n.From = r.date(0)
	if r.is("to") {
		r.take()
		n.To = r.date(n.From + 1)
	}
	r.expect("known")
	n.Known = r.date(0)
	return n
}

// clause reads a clause of an article that has some kids already.
func (r *reader) clause(kids []api.Node) api.Node {
	kind := clauseKind(r.next().Text)
	if kind == 0 {
		panic(r.unexpected())
	}
	token := r.take()
	require(kind == api.NodeWhen || !has(kids, kind), api.ErrTwice, token)
	n := api.Node{Kind: kind, At: token.At}
	if kind == api.NodeUnless {
		r.list(func() { n.Kids = append(n.Kids, r.articleNumber()) })
	} else {
		n.Kids = []api.Node{r.expr()}
	}
	r.expect(";")
	return n
}

// clauseKind returns the kind of the clauses that begin with a key word, or 0.
func clauseKind(word string) int {
	switch word {
	case "when":
		return api.NodeWhen
	case "unless":
		return api.NodeUnless
	case "amount":
		return api.NodeAmount
	}
	return 0
}

func has(nodes []api.Node, kind int) bool { return count(nodes, kind) > 0 }

// count returns how many nodes have a kind.
func count(nodes []api.Node, kind int) int {
	found := 0
	for _, n := range nodes {
		if n.Kind == kind {
			found++
		}
	}
	return found
}
