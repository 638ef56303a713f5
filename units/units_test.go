package units

import (
	"fmt"
	"math/rand"
	"reflect"
	"slices"
	"strings"
	"testing"

	"wageoffice/api"
	"wageoffice/parser"
)

// errorOf returns the error that a word stands for.
func errorOf(word string) api.Errno {
	return map[string]api.Errno{"limit": api.ErrLimit, "twice": api.ErrTwice, "unit": api.ErrUnit, "name": api.ErrName, "kind": api.ErrKind}[word]
}

// unmarked returns a text without its marks, and the diagnostics that these stand for, in their order: a mark is @ and the word of an error before the token at which it is reported.
func unmarked(text string) (string, []api.Diag) {
	var diags []api.Diag
	parts := strings.Split(text, "@")
	text = parts[0]
	for _, part := range parts[1:] {
		word, rest, _ := strings.Cut(part, " ")
		diags = append(diags, api.Diag{Err: errorOf(word), At: len(text)})
		text += rest
	}
	return text, diags
}

// P9.1: the examples of the chapter, and all kinds of nodes. No error is reported at a node of which a kid has no unit.
func TestInfer(t *testing.T) {
	source := read(t, "fact hours : minutes; fact rate : EUR; fact fee : USD; fact married : truth; fact age : number; line basic : EUR earn; line count : number info; "+
		"article 1 for basic"+head+"{ amount rate; } article 2 for count"+head+"{ amount age; } article 1000000 for lost"+head+"{ amount age; }")
	for text, unit := range map[string]string{
		"hours at rate + art 1": "EUR", "hours > 8 min and married": "truth", "not married == true": "truth",
		"rate * 3 / 100": "EUR", "2 * hours": "minutes", "@unit rate * rate": "",
		"@unit hours + 1": "", "@name x + 1": "", "@name art 3": "", "@unit table(hours; 0 : 0 + 1/10)": "", "least(rate, EUR 1.00)": "EUR",
		"0": "number", "999999999999": "number", "0 min": "minutes", "EUR 0.01": "EUR", "ZZZ 0.00": "ZZZ", "true": "truth", "false": "truth",
		"weekday": "number", "day": "number", "month": "number", "year": "number",
		"hours": "minutes", "rate": "EUR", "fee": "USD", "married": "truth", "age": "number", "art 1": "EUR", "art 2": "number",
		"@name basic": "", "@name count": "", "@name hour": "", "@name art 1000000": "", "@name art 999999": "",
		"table(rate / 2; 0 : 0 + 1/2)": "EUR", "table(@name x; 0 : 0 + 1/2)": "", "not @name x": "", "@name x / 2": "", "not (@unit rate + age)": "",
		"@name x + @name y": "", "1 + (age and @name x) + @name y": "", "age + (@unit rate + 1)": "", "least(@name x, true, @name art 3, 5 min)": "",
		"(@unit hours < age) or @name x or (@unit not 1)": "", "(@unit not hours) at (@unit true + true)": "",
		"ZZZ 1.00 == ZZZ 2.00": "truth", "@unit ZZZ 1.00 == ZZY 1.00": "", "hours at ZZZ 1.00": "ZZZ", "@unit hours at (hours at rate) < fee": "",
		"least(age, 1, day, year, art 2)": "number", "@unit least(age, 1, day, year, 1 min)": "", "@unit greatest(rate, rate, fee, rate)": "",
	} {
		text, diags := unmarked(text)
		if got, found := Infer(source, readExpr(t, text)); got != unit || !slices.Equal(found, diags) {
			t.Error(text, got, found)
		}
	}
}

// P9.1: the operands of > and >= are exchanged in the tree, and so are the errors in them.
func TestOrderOfKids(t *testing.T) {
	for text, want := range map[string][]int{"x < y": {0, 4}, "x > y": {4, 0}, "x >= y + z": {5, 9, 0}, "x <= y": {0, 5}} {
		var diags []api.Diag
		for _, at := range want {
			diags = append(diags, api.Diag{Err: api.ErrName, At: at})
		}
		if got, found := Infer(read(t, ""), readExpr(t, text)); got != "" || !slices.Equal(found, diags) {
			t.Error(text, got, found)
		}
	}
}

// P9.1: every operator, with operands of all units. What fits is listed here; all else is an error.
func TestOperators(t *testing.T) {
	source := read(t, facts)
	names := map[string]string{"truth": "t", "number": "n", "minutes": "m", "EUR": "e", "USD": "u"}
	check := func(text, want string) {
		var diags []api.Diag
		if want == none {
			diags = []api.Diag{{Err: api.ErrUnit, At: 0}}
		}
		if got, found := Infer(source, readExpr(t, text)); got != want || !slices.Equal(found, diags) {
			t.Errorf("%q: %q, %v, not %q", text, got, found, want)
		}
	}
	both := map[string]map[string]string{}
	for operator, list := range map[string]string{
		"or": "t,t=truth", "and": "t,t=truth",
		"==": "t,t=truth n,n=truth m,m=truth e,e=truth u,u=truth", "!=": "t,t=truth n,n=truth m,m=truth e,e=truth u,u=truth",
		"<": "n,n=truth m,m=truth e,e=truth u,u=truth", "<=": "n,n=truth m,m=truth e,e=truth u,u=truth",
		">": "n,n=truth m,m=truth e,e=truth u,u=truth", ">=": "n,n=truth m,m=truth e,e=truth u,u=truth",
		"+": "n,n=number m,m=minutes e,e=EUR u,u=USD", "-": "n,n=number m,m=minutes e,e=EUR u,u=USD",
		"*": "n,n=number n,m=minutes n,e=EUR n,u=USD m,n=minutes e,n=EUR u,n=USD", "at": "m,e=EUR m,u=USD",
	} {
		both[operator] = map[string]string{}
		for _, x := range words(list) {
			operands, unit, _ := strings.Cut(x, "=")
			both[operator][operands] = unit
		}
	}
	for unit, a := range names {
		check("not "+a, map[string]string{"t": "truth"}[a])
		check(a+" / 2", map[bool]string{true: unit}[a != "t"])
		check("table("+a+"; 0 : 0 + 1/2)", map[string]string{"e": "EUR", "u": "USD"}[a])
		for _, b := range names {
			for operator, fitting := range both {
				check(a+" "+operator+" "+b, fitting[a+","+b])
			}
			for _, c := range names {
				fits := a == b && b == c && a != "t"
				check("least("+a+", "+b+", "+c+")", map[bool]string{true: unit}[fits])
				check("greatest("+a+", "+b+", "+c+")", map[bool]string{true: unit}[fits])
				check("least("+a+", "+b+")", map[bool]string{true: unit}[a == b && a != "t"])
			}
		}
	}
}

// P9.1: of facts, lines and articles with the same name or number the first one counts, wherever it stands.
func TestFirstDeclarations(t *testing.T) {
	amount := head + "{ amount 1; }"
	source := read(t, "article 1 for b"+amount+"fact a : EUR; line a : USD earn; line b : minutes info; fact a : number; line b : EUR earn; article 1 for a"+amount+"article 2 for a"+amount+
		"article 3 for lost"+amount+"article 3 for a"+amount)
	for text, want := range map[string]string{"a": "EUR", "art 1": "minutes", "art 2": "USD", "b": "", "art 3": "", "art 4": ""} {
		if got, diags := Infer(source, readExpr(t, text)); got != want || (len(diags) == 0) != (want != "") {
			t.Error(text, got, diags)
		}
	}
}

// P9.1: at most 20 diagnostics are reported, in expressions and in sources. An expression with more of them has no unit.
func TestMostDiags(t *testing.T) {
	for count := 17; count <= 23; count++ {
		expr := "least(" + strings.Repeat("@name x, ", count) + "@unit 1 + true, EUR 1.00)"
		text, diags := unmarked(expr)
		if got, found := Infer(read(t, ""), readExpr(t, text)); got != "" || !slices.Equal(found, diags[:min(count+1, 20)]) {
			t.Error(count, got, found)
		}
		text, diags = unmarked("line l : EUR earn; article 1 for l" + head + "{ when " + expr + " == EUR 1.00; amount @name y; }")
		if found := Check(read(t, text)); !slices.Equal(found, diags[:min(count+2, 20)]) {
			t.Error(count, found)
		}
	}
}

// P9.1: the diagnostics of facts and lines: names that occur again, and units of lines. Facts and lines do not disturb one another.
func TestDeclarations(t *testing.T) {
	for _, text := range []string{
		"",
		"fact a : EUR; line a : EUR earn; fact b : EUR; line b : EUR earn;",
		"fact a : truth; @twice fact a : truth; @twice fact a : EUR; fact b : EUR;",
		"line a : EUR earn; @twice line a : EUR earn; @twice line a : USD info; fact a : EUR; @twice fact a : EUR; @twice line a : EUR earn;",
		"@unit line a : truth earn; @twice line a : truth earn; @twice line a : EUR earn;",
		"fact a : truth; fact b : number; fact c : minutes; fact d : EUR;",
	} {
		text, diags := unmarked(text)
		if found := Check(read(t, text)); !slices.Equal(found, diags) {
			t.Error(text, found)
		}
	}
	for _, unit := range append(words(allUnits), "ZZZ") {
		for _, role := range words("earn deduct floor info") {
			fits := len(unit) == 3 || role == "info" && unit != "truth"
			diags := []api.Diag{{Err: api.ErrUnit, At: 14}}[:map[bool]int{true: 0, false: 1}[fits]]
			if found := Check(read(t, "fact a : EUR; line b : "+unit+" "+role+";")); !slices.Equal(found, diags) {
				t.Error(unit, role, found)
			}
		}
	}
}

// P9.1: the 33rd fact and the 33rd line have an ErrLimit, also if some of the facts and lines before them occur twice. What occurs twice has an ErrTwice instead.
func TestMostDeclarations(t *testing.T) {
	several := func(format string, from, to int) string {
		text := ""
		for i := from; i < to; i++ {
			text += fmt.Sprintf(format, i)
		}
		return text
	}
	const fact, line = "fact f%d : EUR; ", "line l%d : EUR earn; "
	for _, text := range []string{
		several(fact, 0, 32) + several(line, 0, 32),
		several(line, 0, 32) + several(fact, 0, 32) + "@limit fact g : EUR; @limit line g : EUR earn;",
		several(fact, 0, 32) + "@limit fact g : EUR; line g : EUR earn; @limit fact h : EUR; @twice fact g : EUR; @twice fact f31 : EUR;",
		several(fact, 0, 30) + "@twice fact f0 : EUR; fact g : EUR; @limit fact h : EUR; @twice fact h : EUR;",
		several(line, 0, 31) + "@twice line l7 : truth earn; @limit line g : truth earn; @limit line h : EUR earn; fact g : EUR;",
		several(line, 0, 31) + "@unit line g : truth earn; @limit line h : truth earn; @twice line l0 : truth earn;",
		several(fact, 0, 32) + several("@limit fact f%d : EUR; ", 32, 52) + several(fact, 52, 60) + "line b : truth earn; article 1 for c" + head + "{ amount x; }",
		several(fact, 0, 32) + several("@limit fact f%d : EUR; ", 32, 51) + "@unit line b : truth earn; article 1 for c" + head + "{ amount x; }",
		several(fact, 0, 32) + several("@limit fact f%d : EUR; ", 32, 50) + "line b : EUR earn; article 1 for b" + head + "{ when @unit 1; unless @kind 1, 2; amount x; }",
	} {
		text, diags := unmarked(text)
		if found := Check(read(t, text)); !slices.Equal(found, diags) {
			t.Error(text, found)
		}
	}
}

// P9.1: facts and lines beyond the limit, and lines of wrong units, declare their names all the same.
func TestDeclaredBeyondLimit(t *testing.T) {
	text := ""
	for i := range 33 {
		text += fmt.Sprintf("fact f%d : EUR; line l%d : truth earn; ", i, i)
	}
	source := read(t, text+"article 1 for l32"+head+"{ amount true; }")
	for expr, want := range map[string]string{"f32": "EUR", "art 1": "truth"} {
		if got, diags := Infer(source, readExpr(t, expr)); got != want || len(diags) > 0 {
			t.Error(expr, got, diags)
		}
	}
}

// P9.1: the diagnostics of articles.
func TestArticles(t *testing.T) {
	article := func(text string) string { return strings.Replace(text, "{", head+"{", 1) }
	for _, list := range [][]string{
		{"article 1 for e { amount e; }"},
		{"@name article 1 for lost { amount e; }"},
		{"@name article 1 for t { amount t; }"},
		{"@name article 1 for lost { amount @unit 1 + true; }"},
		{"@name article 1 for lost { amount true; when true; }", "@name article 1 for lost { amount 1; }", "@kind article 1 for e { amount e; }"},
		{"@name article 1 for lost { when @unit 1; amount t; unless @kind 1, @name 2; when @name art 1; }"},
		{"article 1 for e { amount e; }", "@kind article 1 for u { amount u; }", "article 1 for e { amount art 1; }", "@name article 1 for lost { amount u; }"},
		{"article 1 for e { amount e; }", "@kind article 1 for u { amount @unit art 1; }"},
		{"article 1 for e { amount @unit u; }", "article 2 for u { amount u; }", "article 3 for n { amount @unit m; }", "article 4 for m { amount @unit t; }", "article 4 for m { amount @unit n; }"},
		{"article 1 for e { when t; when not t; when n < 1; amount e; when art 1 == e; }"},
		{"article 1 for e { when @unit n; when @unit m; when @unit e; when @unit u; amount e; when t; when @unit art 1; }"},
		{"article 1 for e { when @name x; amount @name y; }"},
		{"article 1 for e { when @unit n and t; when (@name x == n) and (@unit m or t); amount @unit e + u; }"},
		{"article 1 for e { unless 2, 3, 2; amount e; }", "article 2 for u { unless 3, 1; amount u; }", "article 3 for e { amount e; }"},
		{"article 1 for e { unless @kind 1; amount e; }", "article 1 for e { amount e; unless @name 2, @kind 1, @name 1000000, @kind 1; }"},
		{"article 7 for e { when @unit 1 + t; unless @kind 7, 8; amount @unit 5 min; when @unit e; }", "article 8 for n { unless 7, @name 9; amount @name art 9; when t; }"},
		{"article 8 for n { amount (@unit 1 min); }", "article 9 for n { amount ((@unit e)) / 2; when @unit n / 3; }"},
	} {
		text := facts + lines
		for _, item := range list {
			text += article(item) + " "
		}
		text, diags := unmarked(text)
		if found := Check(read(t, text)); !slices.Equal(found, diags) {
			t.Error(list, found)
		}
	}
}

// P9.1: facts and lines may be declared behind the articles that use them. Their diagnostics are the first ones.
func TestOrderOfDiags(t *testing.T) {
	article := "article 1 for b" + head + "{ unless 1; amount a; }"
	text := article + " fact a : EUR; fact a : USD; line b : EUR earn; line c : truth earn; " + strings.Replace(article, "for b", "for c", 1) + " line b : USD earn;"
	second := strings.LastIndex(text, "article")
	want := []api.Diag{
		{Err: api.ErrTwice, At: strings.Index(text, "fact a : USD")},
		{Err: api.ErrUnit, At: strings.Index(text, "line c")},
		{Err: api.ErrTwice, At: strings.Index(text, "line b : USD")},
		{Err: api.ErrKind, At: strings.Index(text, "unless 1") + 7},
		{Err: api.ErrKind, At: second},
		{Err: api.ErrKind, At: strings.LastIndex(text, "unless 1") + 7},
		{Err: api.ErrUnit, At: strings.LastIndex(text, "a; }")},
	}
	if found := Check(read(t, text)); !slices.Equal(found, want) {
		t.Error(found, want)
	}
}

// P9.1: the 61st article and those after it have an ErrLimit instead of errors of their lines; their clauses are checked all the same.
func TestMostArticles(t *testing.T) {
	const begin = "line b : EUR earn; line c : EUR earn; "
	sixty := begin + strings.Repeat("article 1 for b"+head+"{ amount EUR 1.00; } ", 60)
	for _, text := range []string{
		sixty,
		sixty + "@limit article 1 for b" + head + "{ amount EUR 1.00; }",
		sixty + "@limit article 1 for c" + head + "{ amount EUR 1.00; } @limit article 2 for lost" + head + "{ amount EUR 1.00; }",
		sixty + "@limit article 1 for b" + head + "{ unless @kind 1, @name 3; when @unit 1; amount @unit 1; } @limit article 2 for b" + head + "{ unless 1; amount art 2; }",
	} {
		text, diags := unmarked(text)
		if found := Check(read(t, text)); !slices.Equal(found, diags) {
			t.Error(text, found)
		}
	}
}

// P9.1: sources and expressions from fixed seeds, compared with the second definition.
func TestSamples(t *testing.T) {
	good, bad, full := 0, 0, 0
	samples(t, 1, func(_ maker, source, e api.Node) {
		want, diags := inferBy(source, e)
		if got, found := Infer(source, e); got != want || !slices.Equal(found, diags[:min(len(diags), 20)]) {
			t.Fatal(source, e, got, found)
		}
		diags = checkBy(source)
		if found := Check(source); !slices.Equal(found, diags) {
			t.Fatal(source, found, diags)
		}
		switch len(diags) {
		case 0:
			good++
		case 20:
			full++
		default:
			bad++
		}
	})
	if good < 500 || bad < 1000 || full < 100 {
		t.Error(good, bad, full)
	}
}

// P9.1: large sources, compared with the second definition, at the limits of facts, lines, articles and diagnostics.
func TestLargeSamples(t *testing.T) {
	rng := rand.New(rand.NewSource(2))
	seen := map[api.Errno]int{}
	for range 500 {
		source := api.Node{Kind: api.NodeSource}
		names := []string{"a", "b", "c"}
		for i := range 45 {
			names = append(names, fmt.Sprintf("n%d", i))
		}
		rng.Shuffle(len(names), func(i, j int) { names[i], names[j] = names[j], names[i] })
		for i := range 10 + rng.Intn(150) {
			item := api.Node{Kind: pick(rng, api.NodeFact, api.NodeLine, api.NodeArticle, api.NodeArticle), Name: names[(i/3)%len(names)], At: i}
			switch item.Kind {
			case api.NodeFact:
				item.Unit = pick(rng, words(allUnits)...)
			case api.NodeLine:
				item.Unit, item.N = pick(rng, "EUR", "EUR", "EUR", "EUR", "number"), pick(rng, 1, 2, 3, 4, 4, 4)
			default:
				kid := api.Node{Kind: api.NodeNumber, Unit: "EUR", At: 1000 + i}
				item.N, item.Name = 1+i/8, names[(i/6)%len(names)]
				item.Kids = []api.Node{{Kind: api.NodeHead, To: 1}, {Kind: api.NodeAmount, Kids: []api.Node{kid}}}
			}
			source.Kids = append(source.Kids, item)
		}
		found, want := Check(source), checkBy(source)
		if !parser.Valid(source) || !slices.Equal(found, want) {
			t.Fatal(source, found, want)
		}
		for _, diag := range found {
			seen[diag.Err]++
		}
	}
	for _, word := range words("limit twice unit name kind") {
		if seen[errorOf(word)] < 50 {
			t.Error(word, seen)
		}
	}
}

// P9.1, P1: an argument that is not valid, or of the wrong kind, is the only error.
func TestArgs(t *testing.T) {
	source, e := read(t, facts+lines), readExpr(t, "n + lost")
	e.At, source.At = 77, 5
	deep := api.Node{Kind: api.NodeRef, Name: "n", At: 3}
	for range 60 {
		deep = api.Node{Kind: api.NodeBinary, Name: "+", Kids: []api.Node{deep, deep}, At: -4}
	}
	ring := []api.Node{{Kind: api.NodeNot, At: 1 << 62}}
	ring[0].Kids = ring
	bad := []api.Node{{}, {At: 9}, deep, ring[0], {Kind: api.NodeRef, At: 2}, {Kind: api.NodeNumber, Unit: "number", N: -1}, {Kind: api.NodeFact, Name: "a", Unit: "EUR", At: 1},
		{Kind: api.NodeWhen, Kids: []api.Node{e}}, {Kind: api.NodeSource, Kids: []api.Node{e}, At: 4}, {Kind: api.NodeSource, Kids: ring}, {Kind: api.NodeSource, Name: "a"}, {Kind: -1 << 63, At: -1 << 63}, {Kind: 1<<63 - 1},
		{Kind: api.NodeSource, Kids: slices.Repeat([]api.Node{{Kind: api.NodeFact, Name: "a", Unit: "EUR"}}, 2000)}}
	refused := func(source, e api.Node) bool {
		unit, diags := Infer(source, e)
		return unit == "" && slices.Equal(diags, []api.Diag{{Err: api.ErrArg, At: e.At}})
	}
	for i, n := range bad {
		if !refused(source, n) || !refused(n, e) || !refused(n, n) {
			t.Error(i)
		}
		if found := Check(n); !slices.Equal(found, []api.Diag{{Err: api.ErrArg, At: 0}}) {
			t.Error(i, found)
		}
	}
	if !refused(source, source) || !refused(e, e) || !refused(e, source) {
		t.Error("a source is no expression")
	}
	if found := Check(e); !slices.Equal(found, []api.Diag{{Err: api.ErrArg, At: 0}}) {
		t.Error(found)
	}
}

// P9.1, P1: trees of which a field was changed are either valid or refused.
func TestSpoiledArgs(t *testing.T) {
	invalid := 0
	samples(t, 3, func(m maker, source, e api.Node) {
		value := pick(m.Rand, -1<<63, -1, 0, 5, 21, 36525, 1000001, 1000000000000, 1<<63-1)
		text := pick(m.Rand, "", "a", "t", "e", "art", "truth", "minutes", "EUR", "EURO", "+", "at", "least", "é")
		for _, n := range []*api.Node{&source, &e} {
			node := pick(m.Rand, nodesOf(n)...)
			switch m.Intn(6) {
			case 0:
				node.Kind = m.Intn(21) - 1
			case 1:
				node.Name = text
			case 2:
				node.Unit = text
			case 3:
				node.N = value
			case 4:
				node.Kids = append(node.Kids, api.Node{Kind: api.NodeRef, Name: "t"})
			}
		}
		validSource := source.Kind == api.NodeSource && parser.Valid(source)
		validExpr := e.Kind != api.NodeSource && parser.Valid(e)
		want, diags := "", []api.Diag{{Err: api.ErrArg, At: e.At}}
		if validSource && validExpr {
			want, diags = inferBy(source, e)
		} else {
			invalid++
		}
		if got, found := Infer(source, e); got != want || !slices.Equal(found, diags[:min(len(diags), 20)]) {
			t.Fatal(source, e, got, found)
		}
		if found := Check(source); !validSource && !slices.Equal(found, []api.Diag{{Err: api.ErrArg, At: 0}}) || validSource && !slices.Equal(found, checkBy(source)) {
			t.Fatal(source, found)
		}
	})
	if invalid < 2000 {
		t.Error(invalid)
	}
}

// P9.2: the kids of an expression with a unit have units and no diagnostics, and an expression has a unit exactly if it has no diagnostics. The diagnostics are those of the kids, and one more if only the kids have units.
func TestOperands(t *testing.T) {
	with, without := 0, 0
	samples(t, 4, func(_ maker, source, e api.Node) {
		for _, n := range nodesOf(&e) {
			unit, diags := Infer(source, *n)
			if (unit == "") != (len(diags) > 0) {
				t.Fatal(unit, diags)
			}
			var below []api.Diag
			for _, kid := range n.Kids {
				part, more := Infer(source, kid)
				if unit != "" && (part == "" || len(more) > 0) {
					t.Fatal(n, part, more)
				}
				below = append(below, more...)
			}
			if len(below) > 0 && !slices.Equal(diags, below[:min(len(below), 20)]) || len(below) == 0 && len(diags) > 1 {
				t.Fatal(n, diags, below)
			}
			if unit == "" {
				without++
			} else {
				with++
			}
		}
	})
	if with < 5000 || without < 5000 {
		t.Error(with, without)
	}
}

// sameResults checks that the units and diagnostics for two sources and two expressions are the same, after changes of those of the first ones.
func sameResults(t *testing.T, sources, exprs [2]api.Node, unitOf func(string) string, diagsOf func([]api.Diag) []api.Diag) {
	t.Helper()
	unit, diags := Infer(sources[0], exprs[0])
	other, others := Infer(sources[1], exprs[1])
	if unitOf(unit) != other || !slices.Equal(diagsOf(diags), others) {
		t.Fatal(sources, exprs, unit, diags, other, others)
	}
	if before, after := Check(sources[0]), Check(sources[1]); !slices.Equal(diagsOf(before), after) {
		t.Fatal(sources, before, after)
	}
}

func sameUnit(unit string) string { return unit }

func unchanged(diags []api.Diag) []api.Diag { return diags }

// P9.3: if a fact is renamed everywhere, to a new name, the unit and the diagnostics are the same. Lines of its name keep theirs.
func TestNames(t *testing.T) {
	samples(t, 5, func(m maker, source, e api.Node) {
		name, fresh := m.one("t n m e u x"), m.one("abcdefghijklmno1 z z_9")
		rename := func(n *api.Node) {
			if (n.Kind == api.NodeFact || n.Kind == api.NodeRef) && n.Name == name {
				n.Name = fresh
			}
		}
		sameResults(t, [2]api.Node{source, edited(source, rename)}, [2]api.Node{e, edited(e, rename)}, sameUnit, unchanged)
	})
}

// P9.4: if two currencies are exchanged everywhere, they are exchanged in the unit, and the diagnostics are the same. One of them may occur nowhere.
func TestCurrencies(t *testing.T) {
	exchanged := 0
	samples(t, 6, func(m maker, source, e api.Node) {
		a, b := m.one("EUR USD"), m.one("EUR USD AAA ZZZ")
		exchange := func(unit string) string {
			switch unit {
			case a:
				return b
			case b:
				return a
			}
			return unit
		}
		swap := func(n *api.Node) { n.Unit = exchange(n.Unit) }
		sameResults(t, [2]api.Node{source, edited(source, swap)}, [2]api.Node{e, edited(e, swap)}, exchange, unchanged)
		if unit, _ := Infer(source, e); exchange(unit) != unit {
			exchanged++
		}
	})
	if exchanged < 200 {
		t.Error(exchanged)
	}
}

// P9.5: the clauses and heads of articles have no influence on the unit, and neither has the order of items of different kinds.
func TestLocality(t *testing.T) {
	compared := 0
	samples(t, 7, func(m maker, source, e api.Node) {
		unit, diags := Infer(source, e)
		other := edited(source, func(n *api.Node) {
			if n.Kind != api.NodeArticle {
				return
			}
			n.Kids = []api.Node{{Kind: api.NodeHead, N: m.Intn(9), To: 1 + m.Intn(9), Known: m.Intn(9)},
				{Kind: api.NodeWhen, Kids: []api.Node{e}}, {Kind: api.NodeAmount, Kids: []api.Node{{Kind: api.NodeRef, Name: "lost"}}}}
		})
		if !parser.Valid(other) {
			return
		}
		compared++
		slices.SortStableFunc(other.Kids, func(a, b api.Node) int { return b.Kind - a.Kind })
		if got, found := Infer(other, e); got != unit || !slices.Equal(found, diags) {
			t.Fatal(source, e, got, found)
		}
	})
	if compared < 3000 {
		t.Error(compared)
	}
}

// P9.6: in a source without diagnostics, every condition has the unit truth, and every amount that of its line.
func TestClauses(t *testing.T) {
	clauses := 0
	samples(t, 8, func(m maker, source, _ api.Node) {
		if len(Check(source)) > 0 {
			return
		}
		for _, article := range itemsBy(source, api.NodeArticle, func(api.Node) bool { return true }) {
			for _, clause := range article.Kids {
				want := map[int]string{api.NodeWhen: "truth", api.NodeAmount: declaredBy(source, api.NodeLine, article.Name)}[clause.Kind]
				if want == "" {
					continue
				}
				clauses++
				if got, diags := Infer(source, clause.Kids[0]); got != want || len(diags) > 0 {
					t.Fatal(source, clause, got, diags)
				}
			}
		}
	})
	if clauses < 5000 {
		t.Error(clauses)
	}
}

// P9.6: if an expression of another unit takes the place of a condition or an amount, there is a diagnostic.
func TestOtherClauses(t *testing.T) {
	m := newMaker(9, 0)
	for range 500 {
		source := read(t, m.source())
		if diags := Check(source); len(diags) > 0 {
			t.Fatal(source, diags)
		}
		article := pick(m.Rand, itemsBy(source, api.NodeArticle, func(api.Node) bool { return true })...)
		for i, clause := range article.Kids {
			if clause.Kind != api.NodeWhen && clause.Kind != api.NodeAmount {
				continue
			}
			kid := &article.Kids[i].Kids[0]
			before := *kid
			unit, _ := Infer(source, before)
			other := m.one(strings.Replace(allUnits, unit, "", 1))
			*kid = readExpr(t, m.expr(other, 3))
			if found := Check(source); !slices.Equal(found, []api.Diag{{Err: api.ErrUnit, At: kid.At}}) {
				t.Fatal(source, found)
			}
			*kid = before
		}
	}
}

// P9.7: a part of an expression may be replaced by another expression of its unit.
func TestParts(t *testing.T) {
	replaced := 0
	samples(t, 10, func(m maker, source, e api.Node) {
		whole, _ := Infer(source, e)
		part := pick(m.Rand, nodesOf(&e)...)
		unit, _ := Infer(source, *part)
		if unit == "" {
			return
		}
		other := readExpr(t, m.expr(unit, 3))
		if otherUnit, _ := Infer(source, other); otherUnit != unit {
			return
		}
		*part = other
		if got, diags := Infer(source, e); parser.Valid(e) {
			replaced++
			if got != whole {
				t.Fatal(source, e, got, diags)
			}
		}
	})
	if replaced < 500 {
		t.Error(replaced)
	}
}

// P9.8: if offsets are changed, the same errors are reported at the same nodes, at their new offsets.
func TestOffsets(t *testing.T) {
	samples(t, 11, func(m maker, source, e api.Node) {
		next, places := 0, map[int]int{}
		number := func(n *api.Node) {
			next++
			n.At = next
			places[next] = pick(m.Rand, -1<<63, 1<<63-1, m.Intn(100)-50)
		}
		move := func(n *api.Node) { n.At = places[n.At] }
		source, e = edited(source, number), edited(e, number)
		moved := func(diags []api.Diag) []api.Diag {
			diags = slices.Clone(diags)
			for i := range diags {
				diags[i].At = places[diags[i].At]
			}
			return diags
		}
		sameResults(t, [2]api.Node{source, edited(source, move)}, [2]api.Node{e, edited(e, move)}, sameUnit, moved)
		stripped, _ := Infer(parser.Strip(source), parser.Strip(e))
		if unit, _ := Infer(source, e); unit != stripped {
			t.Fatal(unit, stripped)
		}
	})
}

// P1: the functions do not change their arguments, and their results depend on nothing else.
func TestArgumentsUnchanged(t *testing.T) {
	keep := func(*api.Node) {}
	samples(t, 12, func(_ maker, source, e api.Node) {
		sourceBefore, before := edited(source, keep), edited(e, keep)
		unit, diags := Infer(source, e)
		checked := Check(source)
		again, diagsAgain := Infer(source, e)
		if unit != again || !slices.Equal(diags, diagsAgain) || !slices.Equal(checked, Check(source)) {
			t.Fatal(source, e)
		}
		if !reflect.DeepEqual(source, sourceBefore) || !reflect.DeepEqual(e, before) {
			t.Fatal(source, e)
		}
	})
}
