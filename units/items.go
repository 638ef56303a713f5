package units

import "wageoffice/api"

// declaration is what no two items of a source may have in common.
type declaration struct {
	kind int
	name string
}

// declarations reports the errors of facts and lines.
func (c checker) declarations(items []api.Node) {
	seen := map[declaration]bool{}
	counts := map[int]int{}
	for _, item := range items {
		if item.Kind == api.NodeArticle {
			continue
		}
		key := declaration{item.Kind, item.Name}
		counts[item.Kind]++
		switch {
		case seen[key]:
			c.report(api.ErrTwice, item)
		case counts[item.Kind] > api.MaxDecls:
			c.report(api.ErrLimit, item)
		case item.Kind == api.NodeLine && !suitsRole(item.Unit, item.N):
			c.report(api.ErrUnit, item)
		}
		seen[key] = true
	}
}

// suitsRole reports whether a line with a role can have a unit.
func suitsRole(unit string, role int) bool {
	return isCurrency(unit) || role == api.RoleInfo && unit != api.UnitTruth
}

// articles reports the errors of articles.
func (c checker) articles(items []api.Node) {
	count := 0
	for _, item := range items {
		if item.Kind == api.NodeArticle {
			count++
			c.article(item, count)
		}
	}
}

// article reports the errors of an article that has a place among all articles, counted from 1.
func (c checker) article(n api.Node, place int) {
	_, hasLine := c.lines[n.Name]
	switch {
	case place > api.MaxArticles:
		c.report(api.ErrLimit, n)
	case !hasLine:
		c.report(api.ErrName, n)
	case c.numbers[n.N] != n.Name:
		c.report(api.ErrKind, n)
	}
	for _, clause := range n.Kids[1:] {
		c.clause(n, clause)
	}
}

func (c checker) clause(article, n api.Node) {
	switch n.Kind {
	case api.NodeWhen:
		c.expect(api.UnitTruth, n.Kids[0])
	case api.NodeAmount:
		c.expect(c.lines[article.Name], n.Kids[0])
	case api.NodeUnless:
		for _, number := range n.Kids {
			c.exception(article, number)
		}
	}
}

// expect reports the errors of an expression that must have a unit. It may have any unit if there is none that it must have.
func (c checker) expect(unit string, e api.Node) {
	found := c.unit(e)
	if found != none && unit != none && found != unit {
		c.report(api.ErrUnit, e)
	}
}

// exception reports the error of a number of an article that another article names as its exception.
func (c checker) exception(article, number api.Node) {
	_, known := c.numbers[number.N]
	switch {
	case number.N == article.N:
		c.report(api.ErrKind, number)
	case !known:
		c.report(api.ErrName, number)
	}
}
