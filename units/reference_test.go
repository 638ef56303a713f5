package units

import (
	"slices"
	"strings"

	"wageoffice/api"
)

// What follows is a second definition of units and diagnostics. The rules are patterns: m stands for one unit other than truth, c for a currency, u for any unit, and m+ for as many units m as there are kids.

const patterns = `
	not    truth         truth
	or     truth truth   truth
	and    truth truth   truth
	==     u u           truth
	!=     u u           truth
	<      m m           truth
	<=     m m           truth
	+      m m           m
	-      m m           m
	least  m+            m
	greatest m+          m
	*      number m      m
	*      m number      m
	/      m number      m
	at     minutes c     c
	table  c             c
`

func words(text string) []string { return strings.Fields(text) }

// unitBy returns the unit that the patterns give to an operator and the units of its kids.
func unitBy(operator string, kids ...string) string {
	for _, line := range strings.Split(strings.TrimSpace(patterns), "\n") {
		pattern := words(line)
		if pattern[0] != operator {
			continue
		}
		places, result := pattern[1:len(pattern)-1], pattern[len(pattern)-1]
		if places[0] == "m+" {
			places = slices.Repeat([]string{"m"}, len(kids))
		}
		if bound, ok := matched(places, kids); ok {
			if unit := bound[result]; unit != "" {
				return unit
			}
			return result
		}
	}
	return ""
}

// matched returns what the letters of a pattern stand for.
func matched(places, kids []string) (map[string]string, bool) {
	bound := map[string]string{}
	for i, place := range places {
		isCur := strings.ToUpper(kids[i]) == kids[i]
		switch {
		case len(place) > 1:
			if place != kids[i] {
				return nil, false
			}
			continue
		case bound[place] != "" && bound[place] != kids[i], place == "m" && kids[i] == "truth", place == "c" && !isCur:
			return nil, false
		}
		bound[place] = kids[i]
	}
	return bound, true
}

// itemsBy returns the items of a kind that have a property.
func itemsBy(source api.Node, kind int, has func(api.Node) bool) []api.Node {
	return slices.DeleteFunc(slices.Clone(source.Kids), func(n api.Node) bool { return n.Kind != kind || !has(n) })
}

func declaredBy(source api.Node, kind int, name string) string {
	for _, n := range itemsBy(source, kind, func(n api.Node) bool { return n.Name == name }) {
		return n.Unit
	}
	return ""
}

func lineBy(source api.Node, number int) string {
	for _, n := range itemsBy(source, api.NodeArticle, func(n api.Node) bool { return n.N == number }) {
		return n.Name
	}
	return ""
}

// inferBy returns the unit of an expression, and all diagnostics, also those above the limit.
func inferBy(source, e api.Node) (string, []api.Diag) {
	var kids []string
	var diags []api.Diag
	for _, kid := range e.Kids {
		unit, more := inferBy(source, kid)
		kids, diags = append(kids, unit), append(diags, more...)
	}
	unit, err := "", api.ErrUnit
	switch e.Kind {
	case api.NodeNumber:
		unit = e.Unit
	case api.NodeDate:
		unit = "number"
	case api.NodeRef:
		unit, err = declaredBy(source, api.NodeFact, e.Name), api.ErrName
	case api.NodeArt:
		unit, err = declaredBy(source, api.NodeLine, lineBy(source, e.N)), api.ErrName
	case api.NodeNot:
		unit = unitBy("not", kids...)
	case api.NodeTable:
		unit = unitBy("table", kids...)
	default:
		unit = unitBy(e.Name, kids...)
	}
	if slices.Contains(kids, "") {
		return "", diags
	}
	if unit == "" {
		diags = append(diags, api.Diag{Err: err, At: e.At})
	}
	return unit, diags
}

// checkBy returns the diagnostics of a source.
func checkBy(source api.Node) []api.Diag {
	var diags, later []api.Diag
	for i, n := range source.Kids {
		err, before := api.OK, source
		before.Kids = source.Kids[:i]
		sameKind := itemsBy(before, n.Kind, func(api.Node) bool { return true })
		isCur := strings.ToUpper(n.Unit) == n.Unit
		isTwice := slices.ContainsFunc(sameKind, func(other api.Node) bool { return other.Name == n.Name })
		switch {
		case n.Kind == api.NodeArticle:
			later = append(later, articleBy(source, n, len(sameKind))...)
		case isTwice:
			err = api.ErrTwice
		case len(sameKind) >= 32:
			err = api.ErrLimit
		case n.Kind == api.NodeLine && (n.Unit == "truth" || n.N != api.RoleInfo && !isCur):
			err = api.ErrUnit
		}
		if err != api.OK {
			diags = append(diags, api.Diag{Err: err, At: n.At})
		}
	}
	diags = append(diags, later...)
	return diags[:min(len(diags), 20)]
}

// articleBy returns the diagnostics of an article that has some articles before it.
func articleBy(source, n api.Node, before int) []api.Diag {
	var diags []api.Diag
	report := func(is bool, err api.Errno, at api.Node) bool {
		if is {
			diags = append(diags, api.Diag{Err: err, At: at.At})
		}
		return is
	}
	unit := declaredBy(source, api.NodeLine, n.Name)
	_ = report(before >= 60, api.ErrLimit, n) || report(unit == "", api.ErrName, n) || report(lineBy(source, n.N) != n.Name, api.ErrKind, n)
	for _, clause := range n.Kids {
		wanted := map[int]string{api.NodeWhen: "truth", api.NodeAmount: unit}[clause.Kind]
		for _, kid := range clause.Kids {
			if clause.Kind == api.NodeUnless {
				_ = report(kid.N == n.N, api.ErrKind, kid) || report(lineBy(source, kid.N) == "", api.ErrName, kid)
				continue
			}
			found, more := inferBy(source, kid)
			diags = append(diags, more...)
			report(found != "" && wanted != "" && found != wanted, api.ErrUnit, kid)
		}
	}
	return diags
}
