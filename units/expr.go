package units

import (
	"slices"

	"wageoffice/api"
)

const none = "" // in the place of a unit: there is none

// unit returns the unit of a valid expression, after reporting the errors in it.
func (c checker) unit(n api.Node) string {
	switch n.Kind {
	case api.NodeNumber:
		return n.Unit
	case api.NodeDate:
		return api.UnitNumber
	case api.NodeRef:
		return c.found(n, c.facts[n.Name], api.ErrName)
	case api.NodeArt:
		return c.found(n, c.lines[c.numbers[n.N]], api.ErrName)
	}
	kids := c.kids(n)
	if slices.Contains(kids, none) {
		return none
	}
	return c.found(n, combined(operator(n), kids), api.ErrUnit)
}

func (c checker) kids(n api.Node) []string {
	var units []string
	for _, kid := range n.Kids {
		units = append(units, c.unit(kid))
	}
	return units
}

// found returns the unit that was found for a node. If none was, an error is reported.
func (c checker) found(n api.Node, unit string, err api.Errno) string {
	if unit == none {
		c.report(err, n)
	}
	return unit
}

// operator returns the word or symbol that tells what is done with the kids of a node.
func operator(n api.Node) string {
	switch n.Kind {
	case api.NodeNot:
		return "not"
	case api.NodeTable:
		return "table"
	}
	return n.Name
}

// combined returns the unit of what an operator makes of operands with units, or none if these do not fit.
func combined(operator string, units []string) string {
	first, last := units[0], units[len(units)-1]
	fit := alike(units)
	switch operator {
	case "not", "or", "and":
		if fit && first == api.UnitTruth {
			return api.UnitTruth
		}
	case "<", "<=":
		if first == api.UnitTruth {
			return none
		}
		fallthrough
	case "==", "!=":
		if fit {
			return api.UnitTruth
		}
	case "*":
		// A factor without a dimension may stand on either side.
		if first == api.UnitNumber {
			first, last = last, first
		}
		fit = last == api.UnitNumber
		fallthrough
	case "+", "-", "least", "greatest":
		if !fit {
			return none
		}
		fallthrough
	case "/":
		if first != api.UnitTruth {
			return first
		}
	case "at":
		if first == api.UnitMinutes && isCurrency(last) {
			return last
		}
	case "table":
		if isCurrency(first) {
			return first
		}
	}
	return none
}

// alike reports whether all units are the same.
func alike(units []string) bool {
	return !slices.ContainsFunc(units, func(unit string) bool { return unit != units[0] })
}

// isCurrency reports whether a unit of a valid tree is a currency.
func isCurrency(unit string) bool {
	switch unit {
	case api.UnitTruth, api.UnitNumber, api.UnitMinutes:
		return false
	}
	return true
}
