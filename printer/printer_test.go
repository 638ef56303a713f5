package printer

import (
	"math/rand"
	"reflect"
	"slices"
	"strings"
	"testing"

	"wageoffice/api"
	"wageoffice/lexer"
	"wageoffice/parser"
)

// read returns the tree of an expression without diagnostics.
func read(t *testing.T, text string) api.Node {
	t.Helper()
	n, diags := parser.ParseExpr(text)
	if len(diags) > 0 {
		t.Fatalf("%q: %v", text, diags)
	}
	return n
}

// readAs returns the tree of a source without diagnostics, or of an expression.
func readAs(t *testing.T, kind int, text string) api.Node {
	t.Helper()
	if kind != api.NodeSource {
		return read(t, text)
	}
	n, diags := parser.Parse(text)
	if len(diags) > 0 {
		t.Fatalf("%q: %v", text, diags)
	}
	return n
}

// written returns the canonical text of a tree that has one.
func written(t *testing.T, n api.Node) string {
	t.Helper()
	show := Expr
	if n.Kind == api.NodeSource {
		show = Source
	}
	text, err := show(n)
	if err != api.OK {
		t.Fatal(err, n)
	}
	return text
}

// P8.1: the examples of the chapter.
func TestExamples(t *testing.T) {
	for text, want := range map[string]string{
		"(a + b) + (c * d)":                              "a + b + c * d",
		"a - (b - c) > ((2))":                            "2 < a - (b - c)",
		"not (not (a or b)) and c":                       "not not (a or b) and c",
		"(a or b) or (c or d)":                           "a or b or (c or d)",
		"(hours - 480 min) at rate * 2":                  "(hours - 480 min) at rate * 2",
		"table((x); 0 : 0 + 1/10, 500.00 : 50.00 + 1/4)": "table(x; 0.00 : 0.00 + 2/20, 500.00 : 50.00 + 5/20)",
	} {
		if got := written(t, read(t, text)); got != want {
			t.Errorf("%q: %q, not %q", text, got, want)
		}
	}
}

// P8.1: the texts of nodes that have no operands, at the bounds of their values, and of calls and tables.
func TestAtoms(t *testing.T) {
	greatest := call(binary("or", ref("a"), ref("b")), not(ref("c")), number(1, "number"))
	greatest.Name = "greatest"
	nested := table(3, api.Piece{At: -3, Slope: 2})
	nested.Kids[0] = binary("and", ref("a"), call(ref("b"), ref("c")))
	for want, n := range map[string]api.Node{
		"0":                          number(0, "number"),
		"999999999999":               number(999999999999, "number"),
		"0 min":                      number(0, "minutes"),
		"999999999999 min":           number(999999999999, "minutes"),
		"false":                      number(0, "truth"),
		"true":                       number(1, "truth"),
		"EUR 0.00":                   number(0, "EUR"),
		"EUR 0.01":                   number(1, "EUR"),
		"EUR 0.10":                   number(10, "EUR"),
		"EUR 0.99":                   number(99, "EUR"),
		"EUR 1.00":                   number(100, "EUR"),
		"EUR 1.05":                   number(105, "EUR"),
		"ZZZ 9999999999.99":          number(999999999999, "ZZZ"),
		"abcdefghijklmno1":           ref("abcdefghijklmno1"),
		"art 1":                      {Kind: api.NodeArt, N: 1},
		"art 1000000":                {Kind: api.NodeArt, N: 1000000},
		"weekday":                    {Kind: api.NodeDate, Name: "weekday"},
		"day":                        {Kind: api.NodeDate, Name: "day"},
		"month":                      {Kind: api.NodeDate, Name: "month"},
		"year":                       {Kind: api.NodeDate, Name: "year"},
		"least(a, b)":                call(ref("a"), ref("b")),
		"greatest(a or b, not c, 1)": greatest,
		"table(a and least(b, c); 0.00 : -0.01 + 2/3)": nested,
		"table(a; 0.00 : 0.00 + 0/1)":                  table(1, api.Piece{}),
		"table(a; 0.00 : 0.01 - 1/1)":                  table(1, api.Piece{At: 1, Slope: -1}),
		"table(a; 0.00 : -0.99 + 1/2)":                 table(2, api.Piece{At: -198, Slope: 1}),
		"table(a; 0.00 : -1.00 - 1/2)":                 table(2, api.Piece{At: -200, Slope: -1}),
		"table(a; 0.00 : 9999999999.99 + 1000000/1000000, 9999999999.99 : -9999999999.99 - 1000000/1000000)": table(1000000,
			api.Piece{At: 999999999999 * 1000000, Slope: 1000000}, api.Piece{From: 999999999999, At: -999999999999 * 1000000, Slope: -1000000}),
	} {
		if got := written(t, n); got != want {
			t.Errorf("%q, not %q", got, want)
		}
	}
}

// P8.1: an operand of each level in each place is in parentheses if the level is less than the least one of the place.
func TestPlaces(t *testing.T) {
	a, b, c := ref("a"), ref("b"), ref("c")
	operands := []struct {
		level int
		n     api.Node
		text  string
	}{
		{0, binary("or", a, b), "a or b"}, {1, binary("and", a, b), "a and b"}, {2, not(a), "not a"},
		{3, binary("==", a, b), "a == b"}, {3, binary("!=", a, b), "a != b"}, {3, binary("<", a, b), "a < b"}, {3, binary("<=", a, b), "a <= b"},
		{4, binary("+", a, b), "a + b"}, {4, binary("-", a, b), "a - b"},
		{5, binary("*", a, b), "a * b"}, {5, binary("/", a, number(2, "number")), "a / 2"}, {5, binary("at", a, b), "a at b"},
		{6, a, "a"}, {6, number(5, "minutes"), "5 min"}, {6, number(5, "EUR"), "EUR 0.05"}, {6, number(1, "truth"), "true"},
		{6, api.Node{Kind: api.NodeArt, N: 3}, "art 3"}, {6, api.Node{Kind: api.NodeDate, Name: "day"}, "day"},
		{6, call(a, b), "least(a, b)"}, {6, table(1, api.Piece{}), "table(a; 0.00 : 0.00 + 0/1)"},
	}
	for _, x := range operands {
		at := func(least int) string {
			if x.level < least {
				return "(" + x.text + ")"
			}
			return x.text
		}
		check := func(n api.Node, want string) {
			if got := written(t, n); got != want {
				t.Errorf("%q, not %q", got, want)
			}
		}
		check(not(x.n), "not "+at(2))
		check(binary("/", x.n, number(3, "number")), at(5)+" / 3")
		for operator, least := range map[string][2]int{"or": {0, 1}, "and": {1, 2}, "==": {4, 4}, "!=": {4, 4}, "<": {4, 4}, "<=": {4, 4},
			"+": {4, 5}, "-": {4, 5}, "*": {5, 6}, "at": {5, 6}} {
			check(binary(operator, x.n, c), at(least[0])+" "+operator+" c")
			check(binary(operator, c, x.n), "c "+operator+" "+at(least[1]))
		}
		check(call(c, x.n), "least(c, "+x.text+")")
		inTable := table(1, api.Piece{})
		inTable.Kids[0] = x.n
		check(inTable, "table("+x.text+"; 0.00 : 0.00 + 0/1)")
		check(source(article(head(0, 0, 1, 0), clause(api.NodeWhen, x.n), clause(api.NodeAmount, x.n))),
			"article 7 for b rank 0 from 2000-01-01 to 2000-01-02 known 2000-01-01 {\n  when "+x.text+";\n  amount "+x.text+";\n}\n")
	}
}

// P8.1: the texts of items.
func TestItems(t *testing.T) {
	line := func(role int, unit string) api.Node {
		return api.Node{Kind: api.NodeLine, Name: "b", Unit: unit, N: role}
	}
	one, two := number(1, "number"), number(1000000, "number")
	amount := clause(api.NodeAmount, ref("a"))
	for want, n := range map[string]api.Node{
		"":                               source(),
		"fact a : truth;\n":              source(fact("a", "truth")),
		"fact a : number;\n":             source(fact("a", "number")),
		"fact a : minutes;\n":            source(fact("a", "minutes")),
		"fact abcdefghijklmno1 : ZZZ;\n": source(fact("abcdefghijklmno1", "ZZZ")),
		"line b : EUR earn;\n":           source(line(api.RoleEarn, "EUR")),
		"line b : number deduct;\n":      source(line(api.RoleDeduct, "number")),
		"line b : minutes floor;\n":      source(line(api.RoleFloor, "minutes")),
		"line b : truth info;\n":         source(line(api.RoleInfo, "truth")),
		"fact a : EUR;\nline b : EUR earn;\nfact a : EUR;\n":                                              source(fact("a", "EUR"), line(api.RoleEarn, "EUR"), fact("a", "EUR")),
		"article 7 for b rank 1000000 from 2000-01-01 to 2099-12-31 known 2099-12-31 {\n  amount a;\n}\n": source(article(head(1000000, 0, 36524, 36524), amount)),
		"article 7 for b rank 0 from 2099-12-31 known 2024-02-29 {\n  amount a;\n}\n":                     source(article(head(0, 36524, 36525, 8825), amount)),
		"article 7 for b rank 0 from 2000-01-01 to 2000-01-02 known 2000-01-01 {\n  unless 1;\n  when a;\n  amount a;\n  when a;\n}\n": source(
			article(head(0, 0, 1, 0), clause(api.NodeUnless, one), clause(api.NodeWhen, ref("a")), amount, clause(api.NodeWhen, ref("a")))),
		"article 7 for b rank 0 from 2000-01-01 to 2000-01-02 known 2000-01-01 {\n  amount a;\n  unless 1, 1000000, 1;\n}\nfact a : EUR;\n": source(
			article(head(0, 0, 1, 0), amount, clause(api.NodeUnless, one, two, one)), fact("a", "EUR")),
	} {
		if got := written(t, n); got != want {
			t.Errorf("%q, not %q", got, want)
		}
	}
}

// P8.1: expressions and sources from a fixed seed, compared with texts that are made without levels. Offsets do not matter.
func TestSamples(t *testing.T) {
	rng := rand.New(rand.NewSource(1))
	for range 3000 {
		expr, tree := exprSample(rng, 4), sourceSample(rng, rng.Intn(4))
		for _, n := range append(nodesOf(&expr), nodesOf(&tree)...) {
			n.At = rng.Intn(7000) - 500
		}
		if got, want := written(t, expr), exprBy(expr); got != want {
			t.Fatalf("%q, not %q", got, want)
		}
		if got, want := written(t, tree), sourceBy(tree); got != want {
			t.Fatalf("%q, not %q", got, want)
		}
	}
}

// P8.1, P1: there is an ErrArg for every tree that is not valid, and for the wrong kind of tree.
func TestArgs(t *testing.T) {
	rng := rand.New(rand.NewSource(2))
	invalid := 0
	check := func(n api.Node) {
		valid := parser.Valid(n)
		if !valid {
			invalid++
		}
		for isSource, show := range map[bool]func(api.Node) (string, api.Errno){false: Expr, true: Source} {
			text, err := show(n)
			wrong := !valid || isSource != (n.Kind == api.NodeSource)
			if wrong && (err != api.ErrArg || text != "") || !wrong && err != api.OK {
				t.Fatal(n, text, err)
			}
		}
	}
	for i := range 20000 {
		n := exprSample(rng, 3)
		if i%2 == 0 {
			n = sourceSample(rng, 2)
		}
		for range 1 + rng.Intn(2) {
			spoil(rng, pick(rng, nodesOf(&n)...))
		}
		check(n)
	}
	for _, n := range []api.Node{{}, {Kind: api.NodeRef}, {Kind: api.NodeNot}, fact("a", "EUR"), article(), source(ref("a")), source(source()), ref("a"), source(),
		binary(">", ref("a"), ref("b")), binary("/", ref("a"), ref("b")), binary("+", ref("a"), source()), table(0, api.Piece{}), table(1),
		head(0, 0, 1, 0), clause(api.NodeWhen, ref("a")), {Kind: -1 << 63}, {Kind: 1<<63 - 1}} {
		check(n)
	}
	if invalid < 5000 {
		t.Error(invalid)
	}
}

// P8.1, P1: there is an ErrArg also for trees that are too large or without end, and before an ErrLimit.
func TestLargeArgs(t *testing.T) {
	deep := ref("a")
	for range 60 {
		deep = binary("+", deep, deep)
	}
	ring := []api.Node{{Kind: api.NodeNot}}
	ring[0].Kids = ring
	wrong := call(slices.Repeat([]api.Node{ref("abcdefghijklmnop")}, 1000)...)
	wrong.Kids[999].Name = "art"
	for i, n := range []api.Node{
		deep, ring[0], source(ring...), wrong,
		call(slices.Repeat([]api.Node{ref("a")}, 2000)...),
		source(slices.Repeat([]api.Node{fact("a", "EUR")}, 2000)...),
	} {
		for _, show := range []func(api.Node) (string, api.Errno){Expr, Source} {
			if text, err := show(n); text != "" || err != api.ErrArg {
				t.Error(i, len(text), err)
			}
		}
	}
}

// P8.1, P8.2: the limits of bytes, tokens and depths, at both sides; texts that keep them are parsed to their trees.
func TestLimits(t *testing.T) {
	const tooMany = -1
	a, long, name := ref("a"), ref("abcdefghijklmnop"), func(size int) string { return strings.Repeat("a", size) }
	calls := func(n api.Node, kids int, more ...api.Node) api.Node {
		return call(append(slices.Repeat([]api.Node{n}, kids), more...)...)
	}
	sources := func(n api.Node, items int, more ...api.Node) api.Node {
		return source(append(slices.Repeat([]api.Node{n}, items), more...)...)
	}
	short, wide := fact("a", "EUR"), fact("abcdefghijklmnop", "minutes")
	line := api.Node{Kind: api.NodeLine, Name: "a", Unit: "EUR", N: api.RoleEarn}
	nots, sums := a, a
	for range 39 {
		nots, sums = not(nots), binary("+", a, sums)
	}
	for i, x := range []struct {
		n             api.Node
		bytes, tokens int
	}{
		{calls(long, 332, ref(name(14)), ref(name(1))), 6000, 670},
		{calls(long, 332, ref(name(14)), ref(name(2))), tooMany, 670},
		{calls(long, 1999), tooMany, tooMany},
		{calls(a, 999), 3002, 2000},
		{calls(a, 998, not(a)), 3006, tooMany},
		{calls(a, 1000), 3005, tooMany},
		{sources(wide, 181, fact(name(10), "minutes")), 6000, 910},
		{sources(wide, 181, fact(name(11), "minutes")), tooMany, 910},
		{sources(wide, 1999), tooMany, tooMany},
		{sources(short, 400), 5600, 2000},
		{sources(short, 399, line), 5605, tooMany},
		{sources(short, 401), 5614, tooMany},
		{nots, 39*4 + 1, 40},
		{sums, 38*6 + 5, 38*4 + 3},
	} {
		show := Expr
		if x.n.Kind == api.NodeSource {
			show = Source
		}
		text, err := show(x.n)
		if x.bytes == tooMany || x.tokens == tooMany {
			if err != api.ErrLimit || text != "" {
				t.Error(i, len(text), err)
			}
			continue
		}
		if err != api.OK || len(text) != x.bytes || tokenCount(t, text) != x.tokens || !same(readAs(t, x.n.Kind, text), x.n) {
			t.Error(i, len(text), err)
		}
	}
}

// P8.2: parsing a canonical text gives the tree, apart from offsets, without diagnostics.
func TestInverse(t *testing.T) {
	rng := rand.New(rand.NewSource(3))
	for range 5000 {
		expr, tree := exprSample(rng, 5), sourceSample(rng, rng.Intn(5))
		if text, err := Expr(expr); err == api.OK {
			if got := read(t, text); !same(got, expr) {
				t.Fatal(text, expr)
			}
		} else if err != api.ErrLimit {
			t.Fatal(err, expr)
		}
		if text := written(t, tree); !same(readAs(t, tree.Kind, text), tree) {
			t.Fatal(text, tree)
		}
	}
}

// forTexts calls a function with all expressions of up to some tokens of a list.
func forTexts(tokens []string, size int, visit func(text string, n api.Node)) {
	var extend func(text string, left int)
	extend = func(text string, left int) {
		n, diags := parser.ParseExpr(text)
		if len(diags) == 0 {
			visit(text, n)
		} else if diags[0].Err != api.ErrEnd {
			return
		}
		for _, token := range tokens[:len(tokens)*min(left, 1)] {
			extend(text+token+" ", left-1)
		}
	}
	extend("", size)
}

// P8.3, P8.5: for all expressions of up to some tokens: the printed text is parsed to the same tree and printed again as the same text, it has at most as many tokens, and trees are the same if and only if their texts are.
func TestAllTexts(t *testing.T) {
	for _, x := range []struct {
		tokens string
		size   int
	}{
		{"a not or and < > + * ( )", 9},
		{"a not == or - at ( )", 10},
		{"a - / 2 min EUR 1.00 true false art weekday least ( , ) >= <=", 6},
	} {
		keys, texts := map[string]string{}, map[string]string{}
		forTexts(words(x.tokens), x.size, func(text string, n api.Node) {
			canonical, tree := written(t, n), key(n)
			if again := read(t, canonical); !same(again, n) || written(t, again) != canonical {
				t.Fatal(text, canonical)
			}
			if tokenCount(t, canonical) > tokenCount(t, text) {
				t.Fatal(text, canonical)
			}
			if before, ok := keys[canonical]; ok && before != tree {
				t.Fatal(text, canonical, before)
			}
			if before, ok := texts[tree]; ok && before != canonical {
				t.Fatal(text, canonical, before)
			}
			keys[canonical], texts[tree] = tree, canonical
		})
		if len(texts) < 400 {
			t.Error(x.tokens, len(texts))
		}
	}
}

// P8.3: trees are the same, apart from offsets, if and only if their texts are, also if one is made from the other by a change of a field.
func TestCanonical(t *testing.T) {
	rng := rand.New(rand.NewSource(4))
	others := 0
	for i := range 20000 {
		n := exprSample(rng, 3)
		if i%2 == 0 {
			n = sourceSample(rng, 2)
		}
		other := parser.Strip(n)
		spoil(rng, pick(rng, nodesOf(&other)...))
		if !parser.Valid(other) {
			continue
		}
		equal := same(n, other)
		if (written(t, n) == written(t, other)) != equal || (key(n) == key(other)) != equal {
			t.Fatal(n, other)
		}
		if !equal {
			others++
		}
	}
	if others < 500 {
		t.Error(others)
	}
}

// P8.3, P8.5: a text with other gaps, more parentheses and exchanged comparisons has the same canonical text, which has no more tokens.
func TestLooseTexts(t *testing.T) {
	rng := rand.New(rand.NewSource(5))
	for range 10000 {
		n := exprSample(rng, 4)
		text := looseText(rng, n)
		canonical := written(t, n)
		if got := written(t, read(t, text)); got != canonical || tokenCount(t, canonical) > tokenCount(t, text) {
			t.Fatal(text, got, canonical)
		}
	}
}

// P8.3: a source with other gaps has the same canonical text.
func TestLooseSources(t *testing.T) {
	rng := rand.New(rand.NewSource(9))
	for range 1000 {
		want := written(t, sourceSample(rng, rng.Intn(4)))
		tokens, _, _ := lexer.Lex(want)
		text := "// \n"
		for _, token := range tokens {
			text += token.Text + pick(rng, " ", "\n", "\t\r", " // fact\n")
		}
		n, diags := parser.Parse(text)
		if got, err := Source(n); len(diags) > 0 || err != api.OK || got != want {
			t.Fatal(text, diags, err, got)
		}
	}
}

// P8.3, P8.5: tables that are written with other denominators, zeros and gaps have the same text.
func TestLooseTables(t *testing.T) {
	const want = "table(a; 0.00 : 0.00 + 6/12, 5.00 : -0.05 - 4/12, 6.00 : 0.00 + 0/12)"
	for _, text := range []string{
		"table(a; 0 : 0 + 1/2, 5.00 : -0.05 - 1/3, 6.00 : 0 + 0/4)",
		"table((a);0.00:-0.00+2/4,5.00:- 0.05-4/12,6.00:-0-0/1)",
		want,
	} {
		got := written(t, read(t, text))
		if got != want || tokenCount(t, got) > tokenCount(t, text) {
			t.Error(text, got)
		}
	}
}

// P8.4: if a pair of parentheses around an operand is removed from a canonical text, it is parsed to another tree, or not at all.
func TestParentheses(t *testing.T) {
	rng := rand.New(rand.NewSource(6))
	removed := 0
	for range 5000 {
		n := exprSample(rng, 4)
		text := written(t, n)
		for begin := range len(text) {
			isOfCall := begin > 0 && 'a' <= text[begin-1] && text[begin-1] <= 'z'
			if text[begin] != '(' || isOfCall {
				continue
			}
			marked := strings.NewReplacer("(", opening, ")", closing).Replace(text)
			end := closingOf(marked, begin)
			without := text[:begin] + text[begin+1:end] + text[end+1:]
			if tree, diags := parser.ParseExpr(without); len(diags) == 0 && same(tree, n) {
				t.Fatal(text, without)
			}
			removed++
		}
	}
	if removed < 5000 {
		t.Error(removed)
	}
}

// P8.6: the items of two sources together have the texts of both, joined, if they keep the limits together.
func TestJoined(t *testing.T) {
	rng := rand.New(rand.NewSource(7))
	joined, refused := 0, 0
	for i := range 2000 {
		size := 4 + i%2*rng.Intn(60)
		a, b := sourceSample(rng, rng.Intn(size)), sourceSample(rng, rng.Intn(size))
		left, leftErr := Source(a)
		right, rightErr := Source(b)
		both := source(append(slices.Clone(a.Kids), b.Kids...)...)
		text, err := Source(both)
		_, tooLarge, _ := lexer.Lex(left + right)
		switch {
		case leftErr != api.OK || rightErr != api.OK || tooLarge != api.OK:
			refused++
			want := api.ErrLimit
			if !parser.Valid(both) {
				want = api.ErrArg
			}
			if err != want || text != "" {
				t.Fatal(len(text), err)
			}
		default:
			joined++
			if err != api.OK || text != left+right {
				t.Fatal(err, text, left, right)
			}
		}
	}
	if joined < 500 || refused < 10 {
		t.Error(joined, refused)
	}
}

// P1: the functions do not change their arguments, and their results depend on nothing else.
func TestArgumentsUnchanged(t *testing.T) {
	rng := rand.New(rand.NewSource(8))
	for range 500 {
		for _, n := range []api.Node{exprSample(rng, 4), sourceSample(rng, 3)} {
			before := parser.Strip(n)
			first, second := written(t, n), written(t, n)
			if first != second || !reflect.DeepEqual(before, n) {
				t.Fatal(n)
			}
		}
	}
}
