package parser

import (
	"math/rand"
	"reflect"
	"slices"
	"strconv"
	"strings"
	"testing"

	"wageoffice/api"
	"wageoffice/lexer"
)

const article = "article 12 for basic rank 2 from 2024-01-01 to 2025-01-01 known 2023-12-01 "

// compareExpr compares ParseExpr with the chapter's definition. It reports whether there are no diagnostics.
func compareExpr(t *testing.T, rules map[string]*part, text string) bool {
	t.Helper()
	n, diags := ParseExpr(text)
	want, wantDiags := parseExprBy(rules, text)
	if !same(n, want) || !slices.Equal(diags, wantDiags) {
		t.Fatalf("%q: %v %v, not %v %v", text, n, diags, want, wantDiags)
	}
	return len(diags) == 0
}

// compare compares Parse with the chapter's definition. It reports whether there are no diagnostics.
func compare(t *testing.T, rules map[string]*part, source string) bool {
	t.Helper()
	n, diags := Parse(source)
	want, wantDiags := parseBy(rules, source)
	if !same(n, want) || !slices.Equal(diags, wantDiags) {
		t.Fatalf("%q: %v %v, not %v %v", source, n, diags, want, wantDiags)
	}
	return len(diags) == 0
}

func number(n, at int) api.Node {
	return api.Node{Kind: api.NodeNumber, N: n, Unit: "number", At: at}
}

func ref(name string, at int) api.Node { return api.Node{Kind: api.NodeRef, Name: name, At: at} }

func binary(operator string, at int, left, right api.Node) api.Node {
	return api.Node{Kind: api.NodeBinary, Name: operator, Kids: []api.Node{left, right}, At: at}
}

// P7.1: the examples of the chapter, with offsets.
func TestExamples(t *testing.T) {
	for text, want := range map[string]api.Node{
		"a > 3 and not b == c": binary("and", 0, binary("<", 0, number(3, 4), ref("a", 0)),
			api.Node{Kind: api.NodeNot, Kids: []api.Node{binary("==", 14, ref("b", 14), ref("c", 19))}, At: 10}),
		"hours at rate + art 3": binary("+", 0, binary("at", 0, ref("hours", 0), ref("rate", 9)), api.Node{Kind: api.NodeArt, N: 3, At: 16}),
		"table(x; 0 : 0.00 + 1/10, 500.00 : 50.00 + 1/4)": {Kind: api.NodeTable, Kids: []api.Node{ref("x", 6)},
			Table: api.Func{Den: 20, Pieces: []api.Piece{{Slope: 2}, {From: 50000, At: 100000, Slope: 5}}}},
		"((a)) >= ( (b) )": binary("<=", 2, ref("b", 12), ref("a", 2)),
	} {
		if n, diags := ParseExpr(text); !same(n, want) || len(diags) > 0 {
			t.Error(text, n, diags)
		}
	}
	if n, diags := ParseExpr("a < b < c"); !same(n, api.Node{}) || !slices.Equal(diags, []api.Diag{{Err: api.ErrSyntax, At: 6}}) {
		t.Error(n, diags)
	}
	want := []api.Diag{{Err: api.ErrSyntax, At: 16}, {Err: api.ErrEnd, At: 22}}
	if n, diags := Parse("fact rate : EUR line x"); !same(n, api.Node{}) || !slices.Equal(diags, want) {
		t.Error(n, diags)
	}
}

// P7.1: all texts of up to four tokens, as expressions.
func TestShortExpr(t *testing.T) {
	words := strings.Fields("a 1 min EUR 0.00 true art day least table not or and == < >= + * at / ( ) , ; : rank")
	rules := rulesOf(grammar)
	accepted := 0
	var visit func(text string, left int)
	visit = func(text string, left int) {
		if compareExpr(t, rules, text) {
			accepted++
		}
		if left == 0 {
			return
		}
		for _, word := range words {
			visit(text+word+" ", left-1)
		}
	}
	visit("", 4)
	if accepted < 100 {
		t.Error(accepted)
	}
}

// P7.1: all chains of up to three operators, with and without a not.
func TestChains(t *testing.T) {
	rules := rulesOf(grammar)
	operators := strings.Fields("or and == != < <= > >= + - * at /")
	accepted := 0
	var visit func(text string, left int)
	visit = func(text string, left int) {
		if compareExpr(t, rules, text) {
			accepted++
		}
		if left == 0 {
			return
		}
		for _, operator := range operators {
			visit(text+" "+operator+" 3", left-1)
			visit(text+" "+operator+" not b", left-1)
		}
	}
	visit("a", 3)
	visit("not a", 3)
	if accepted < 1000 {
		t.Error(accepted)
	}
}

// P7.1: every token in the place of, or before, every token of some sources, and the sources without it.
func TestEveryPlace(t *testing.T) {
	rules := rulesOf(grammar)
	words := vocabulary()
	for _, source := range []string{
		"fact hours : minutes ; line basic : EUR earn ; fact x : truth ;",
		"line y : number floor ; article 1 for b rank 0 from 2024-01-01 to 2024-02-01 known 2099-12-31 { unless 2 , 3 ; when a < b / 2 ; amount EUR 1.00 ; }",
		"article 1 for b rank 0 from 2024-01-01 known 2024-01-01 { amount table ( least ( a , 5 min ) ; 0 : - 1.00 + 1 / 2 , 64.00 : 0 - 0 / 3 ) ; when not art 3 == ( true ) ; }",
	} {
		tokens := strings.Fields(source)
		if !compare(t, rules, source) {
			t.Error(source)
		}
		for i := range tokens {
			compare(t, rules, strings.Join(slices.Delete(slices.Clone(tokens), i, i+1), " "))
			for _, word := range words {
				compare(t, rules, strings.Join(slices.Insert(slices.Clone(tokens), i, word), " "))
				compare(t, rules, strings.Join(slices.Replace(slices.Clone(tokens), i, i+1, word), " "))
			}
		}
	}
}

// P7.1: sources and expressions from fixed seeds, with and without errors.
func TestSamples(t *testing.T) {
	accepted, refused := 0, 0
	for seed := range int64(3000) {
		m := newMaker(seed, []int{0, 40, 10}[seed%3])
		tokens := m.source(1 + m.rng.Intn(6))
		expr := m.sample("expr", 4)
		if seed%2 == 1 {
			tokens, expr = change(m.rng, tokens), change(m.rng, expr)
		}
		for _, ok := range []bool{
			compare(t, m.rules, spread(m.rng, tokens, " ", "\n", " // fact\n")),
			compareExpr(t, m.rules, spread(m.rng, expr, " ", "\t")),
		} {
			if ok {
				accepted++
			} else {
				refused++
			}
		}
	}
	if accepted < 1000 || refused < 1000 {
		t.Error(accepted, refused)
	}
}

// P7.1: the rules for values, at both sides of their bounds, and of two errors at one token the first one.
func TestValues(t *testing.T) {
	for text, want := range map[string]api.Diag{
		"art 0":                       {Err: api.ErrRange, At: 4},
		"art 1":                       {},
		"art 1000000":                 {},
		"art 1000001":                 {Err: api.ErrRange, At: 4},
		"a / 0":                       {Err: api.ErrRange, At: 4},
		"a / 1000000":                 {},
		"a / 1000001":                 {Err: api.ErrRange, At: 4},
		"a / 2 min":                   {Err: api.ErrSyntax, At: 6},
		"a / (2)":                     {Err: api.ErrSyntax, At: 4},
		"a / b":                       {Err: api.ErrSyntax, At: 4},
		"a / 1.00":                    {Err: api.ErrSyntax, At: 4},
		"999999999999 min":            {},
		"EUR 9999999999.99":           {},
		"EUR 0":                       {Err: api.ErrSyntax, At: 4},
		"EUR":                         {Err: api.ErrEnd, At: 3},
		"12.50":                       {Err: api.ErrSyntax, At: 0},
		"2024-01-01":                  {Err: api.ErrSyntax, At: 0},
		"rank":                        {Err: api.ErrSyntax, At: 0},
		"min":                         {Err: api.ErrSyntax, At: 0},
		" // nothing":                 {Err: api.ErrEnd, At: 11},
		"(a":                          {Err: api.ErrEnd, At: 2},
		"(a ":                         {Err: api.ErrEnd, At: 3},
		"a)":                          {Err: api.ErrSyntax, At: 1},
		"art 0 0":                     {Err: api.ErrRange, At: 4},
		"a $":                         {Err: api.ErrToken, At: 2},
		"rank $":                      {Err: api.ErrToken, At: 5},
		"table(a; 1 : 0 + 1/2)":       {Err: api.ErrRange, At: 9},
		"table(a; 0.01 : 0 + 1/2)":    {Err: api.ErrRange, At: 9},
		"table(a; 0 : 1 + 1/2)":       {Err: api.ErrRange, At: 13},
		"table(a; 0 : -1 + 1/2)":      {Err: api.ErrRange, At: 14},
		"table(a; 0 : - -1.00 + 1/2)": {Err: api.ErrSyntax, At: 15},
		"table(a; 0 : 9999999999.99 + 1000000/1000000)":       {},
		"table(a; 0 : 0 + 1000001/1)":                         {Err: api.ErrRange, At: 17},
		"table(a; 0 : 0 + 1/0)":                               {Err: api.ErrRange, At: 19},
		"table(a; 0 : 0 + 1/1000001)":                         {Err: api.ErrRange, At: 19},
		"table(a; 0 : 0 + 1/999999, 0.01 : 0 + 1/1000000)":    {Err: api.ErrLimit, At: 40},
		"table(a; 0 : 0 + 1/999999, 0.01 : 0 + 1/1000001)":    {Err: api.ErrRange, At: 40},
		"table(a; 0 : 0 + 1/64, 0.01 : 0 - 1/15625)":          {},
		"table(a; 0 : 0 + 1/64, 0.01 : 0 - 15625/15625)":      {},
		"table(a; 0 : 0 + 15626/1, 0.01 : 0 - 1/64)":          {Err: api.ErrLimit, At: 41},
		"table(a; 0 : 0 - 15626/1, 0.01 : 0 - 1/64)":          {Err: api.ErrLimit, At: 41},
		"table(a; 0 : 0 - 15625/1, 0.01 : 0 - 1/64)":          {},
		"table(a; 0 : 0 - 15626/1, 0.01 : 0 - 1/64,":          {Err: api.ErrEnd, At: 42},
		"table(a; 0 : 0 - 15626/1, 0.01 : 0 - 1/64;":          {Err: api.ErrSyntax, At: 41},
		"table(a; 0 : 0 + 1/1, 0.01 : 0 + 1/1, 0.01 : 0":      {Err: api.ErrRange, At: 38},
		"table(a; 0 : 0 + 1/1, 0 : 0 + 1/1)":                  {Err: api.ErrRange, At: 22},
		"table(a; 0 : 0 + 1/1, 9999999999.99 : 0 + 1/1)":      {},
		"table(table(a; 0 : 0 + 1/999999); 0 : 0 + 1/1000000": {Err: api.ErrEnd, At: 51},
	} {
		_, diags := ParseExpr(text)
		if want.Err == api.OK && len(diags) > 0 || want.Err != api.OK && !slices.Equal(diags, []api.Diag{want}) {
			t.Error(text, diags, want)
		}
	}
}

// P7.1: the rules for values in items.
func TestItemValues(t *testing.T) {
	n := len(article)
	for source, want := range map[string]api.Diag{
		"article 0 for":                              {Err: api.ErrRange, At: 8},
		"article 1000001 0":                          {Err: api.ErrRange, At: 8},
		"article 1000000":                            {Err: api.ErrEnd, At: 15},
		"article 1 for x rank 1000001":               {Err: api.ErrRange, At: 21},
		"article 1 for x rank 1000000":               {Err: api.ErrEnd, At: 28},
		"article 1 for x rank 0 from 1999-12-31":     {Err: api.ErrDate, At: 28},
		"article 1 for x rank 0 from 2100-01-01":     {Err: api.ErrDate, At: 28},
		"article 1 for x rank 0 from 2023-02-29":     {Err: api.ErrDate, At: 28},
		"article 1 for x rank 0 from 2024-02-29":     {Err: api.ErrEnd, At: 38},
		article[:43] + " to 2024-01-01":              {Err: api.ErrDate, At: 47},
		article[:43] + " to 2023-12-31":              {Err: api.ErrDate, At: 47},
		article[:43] + " to 2024-02-30":              {Err: api.ErrDate, At: 47},
		article[:43] + " to 2024-01-02":              {Err: api.ErrEnd, At: 57},
		article[:43] + " to 2099-12-31":              {Err: api.ErrEnd, At: 57},
		article[:43] + " known 2099-12-32":           {Err: api.ErrDate, At: 50},
		article[:43] + " known 2000-01-01 to":        {Err: api.ErrSyntax, At: 61},
		article + "{ unless 0":                       {Err: api.ErrRange, At: n + 9},
		article + "{ unless 1, 1000001":              {Err: api.ErrRange, At: n + 12},
		article + "{ unless 1000000, 12; amount 1; ": {Err: api.ErrEnd, At: n + 32},
		article + "{ unless art 1":                   {Err: api.ErrSyntax, At: n + 9},
		article + "{ }":                              {Err: api.ErrSyntax, At: n + 2},
		article + "{ when true; }":                   {Err: api.ErrSyntax, At: n + 13},
		article + "{ amount 1; amount":               {Err: api.ErrTwice, At: n + 12},
		article + "{ unless 1; amount 1; unless":     {Err: api.ErrTwice, At: n + 22},
		article + "{ amount 1; when a; when b; ":     {Err: api.ErrEnd, At: n + 28},
		article + "{ amount 1; } ;":                  {Err: api.ErrSyntax, At: n + 14},
		"fact rank : number;":                        {Err: api.ErrSyntax, At: 5},
		"fact EUR : number;":                         {Err: api.ErrSyntax, At: 5},
		"fact x : cents;":                            {Err: api.ErrSyntax, At: 9},
		"fact x : number earn;":                      {Err: api.ErrSyntax, At: 16},
		"line x : number;":                           {Err: api.ErrSyntax, At: 15},
		"line x : number earn":                       {Err: api.ErrEnd, At: 20},
		"x":                                          {Err: api.ErrSyntax, At: 0},
		"fact ; ; ! fact":                            {Err: api.ErrToken, At: 9},
	} {
		if tree, diags := Parse(source); !slices.Equal(diags, []api.Diag{want}) || !same(tree, api.Node{}) {
			t.Error(source, diags, want)
		}
	}
}

// piecesText returns a table with a number of pieces.
func piecesText(pieces int, lastFirst string) string {
	text := "table(a; 0 : 0 + 1/2"
	for i := 1; i < pieces; i++ {
		first := strconv.Itoa(i) + ".00"
		if i == pieces-1 && lastFirst != "" {
			first = lastFirst
		}
		text += ", " + first + " : 0 + 1/2"
	}
	return text + ")"
}

// P7.1: the limit of pieces, and the error of a first value of the 65th piece that is wrong, too.
func TestPieces(t *testing.T) {
	rules := rulesOf(grammar)
	if n, diags := ParseExpr(piecesText(64, "")); len(n.Table.Pieces) != 64 || len(diags) > 0 {
		t.Error(diags)
	}
	for text, want := range map[string]api.Errno{
		piecesText(65, ""):     api.ErrLimit,
		piecesText(66, ""):     api.ErrLimit,
		piecesText(65, "1.00"): api.ErrRange,
		piecesText(65, "99"):   api.ErrRange,
		piecesText(65, "99 "):  api.ErrRange,
		piecesText(65, "x"):    api.ErrSyntax,
	} {
		at := strings.Index(piecesText(65, ""), "64.00")
		if _, diags := ParseExpr(text); !slices.Equal(diags, []api.Diag{{Err: want, At: at}}) {
			t.Error(want, at, diags)
		}
		compareExpr(t, rules, text)
	}
}

// P7.1: the limits of sources, tokens, depths and diagnostics. The number of nodes does not exceed that of the tokens by more than one, which is that of a source.
func TestLimits(t *testing.T) {
	limit := []api.Diag{{Err: api.ErrLimit}}
	nots := func(n int) string { return strings.Repeat("not ", n) + "a" }
	inArticle := func(expr string) string { return article + "{ amount " + expr + "; }" }
	parse := func(source string) []api.Diag { _, diags := Parse(source); return diags }
	parseExpr := func(text string) []api.Diag { _, diags := ParseExpr(text); return diags }
	for i, x := range []struct{ got, want []api.Diag }{
		{parseExpr(nots(39)), nil},
		{parseExpr(nots(40)), limit},
		{parseExpr("a" + strings.Repeat(" + a", 39)), nil},
		{parseExpr("a" + strings.Repeat(" + a", 40)), limit},
		{parseExpr(strings.Repeat("(", 900) + "a" + strings.Repeat(")", 900)), nil},
		{parseExpr(nots(40) + " )"), []api.Diag{{Err: api.ErrSyntax, At: 162}}},
		{parse(inArticle(nots(36))), nil},
		{parse(inArticle(nots(37))), limit},
		{parse(inArticle(nots(37)) + "x"), []api.Diag{{Err: api.ErrSyntax, At: len(inArticle(nots(37)))}}},
		{parse(strings.Repeat(" ", 6000)), nil},
		{parse(strings.Repeat(" ", 6001)), limit},
		{parseExpr(strings.Repeat(" ", 6000)), []api.Diag{{Err: api.ErrEnd, At: 6000}}},
		{parseExpr(strings.Repeat(" ", 6001)), limit},
		{parseExpr(strings.Repeat("(", 2000)), []api.Diag{{Err: api.ErrEnd, At: 2000}}},
		{parseExpr(strings.Repeat("(", 2001)), []api.Diag{{Err: api.ErrLimit, At: 2000}}},
		{parse(strings.Repeat("fact x:EUR;", 400)), nil},
		{parse(strings.Repeat("fact x:EUR;", 401)), []api.Diag{{Err: api.ErrLimit, At: 4400}}},
		{parseExpr("least(1" + strings.Repeat(",1", 997) + ")"), nil},
	} {
		if !slices.Equal(x.got, x.want) {
			t.Error(i, x.got, x.want)
		}
	}
	for n := range 25 {
		if diags := parse(strings.Repeat("fact ; ", n)); len(diags) != min(n, maxDiags) {
			t.Error(n, diags)
		}
	}
}

// P7.2: a tree without diagnostics is valid, also without its offsets, and Strip changes nothing else.
func TestTrees(t *testing.T) {
	for seed := range int64(1000) {
		m := newMaker(seed, 0)
		source, _ := Parse(spread(m.rng, m.source(4), " "))
		expr, _ := ParseExpr(spread(m.rng, m.sample("expr", 4), " "))
		for _, n := range []api.Node{source, expr} {
			stripped := Strip(n)
			if n.Kind != 0 && (!Valid(n) || !Valid(stripped)) {
				t.Fatal(n)
			}
			nodes, others := nodesOf(&n), nodesOf(&stripped)
			if len(nodes) != len(others) {
				t.Fatal(n, stripped)
			}
			for i := range nodes {
				if others[i].At != 0 {
					t.Fatal(stripped)
				}
				others[i].At = nodes[i].At
			}
			if !same(n, stripped) {
				t.Fatal(n, stripped)
			}
		}
	}
}

// P7.2: Strip sets all offsets of every node to 0, and its result shares no memory with the argument.
func TestStrip(t *testing.T) {
	if n := Strip(api.Node{}); !same(n, api.Node{}) {
		t.Error(n)
	}
	n := api.Node{Kind: -7, Name: "é", Unit: "?", N: -1, From: 5, To: -1 << 63, Known: 9, At: 3,
		Table: api.Func{Den: -2, Pieces: []api.Piece{{From: 7, At: 8, Slope: 9}, {At: 1}}},
		Kids:  []api.Node{{At: -4, Kids: []api.Node{{Kind: 99, At: 1<<63 - 1, Table: api.Func{Pieces: []api.Piece{{At: 2}}}}}}, {Name: "x", At: 1}}}
	want := api.Node{Kind: -7, Name: "é", Unit: "?", N: -1, From: 5, To: -1 << 63, Known: 9,
		Table: api.Func{Den: -2, Pieces: []api.Piece{{From: 7, At: 8, Slope: 9}, {At: 1}}},
		Kids:  []api.Node{{Kids: []api.Node{{Kind: 99, Table: api.Func{Pieces: []api.Piece{{At: 2}}}}}}, {Name: "x"}}}
	stripped := Strip(n)
	if !reflect.DeepEqual(stripped, want) || n.At != 3 || n.Kids[0].At != -4 || n.Kids[0].Kids[0].At != 1<<63-1 {
		t.Error(n, stripped)
	}
	for _, part := range nodesOf(&stripped) {
		part.Name = "changed"
		for i := range part.Table.Pieces {
			part.Table.Pieces[i].At = 77
		}
	}
	if n.Name != "é" || n.Kids[1].Name != "x" || n.Kids[0].Kids[0].Name != "" || n.Table.Pieces[1].At != 1 || n.Kids[0].Kids[0].Table.Pieces[0].At != 2 {
		t.Error("Strip shares memory", n)
	}
}

// P7.3: sources with the same tokens, separated by other gaps, have the same stripped trees.
func TestGaps(t *testing.T) {
	gaps := []string{" ", "\n", "\t \r", "\r// amount 1; }\n", " // x\n\n", "  "}
	for seed := range int64(1000) {
		m := newMaker(seed, 30)
		tokens, expr := m.source(3), m.sample("expr", 4)
		a, _ := Parse(spread(m.rng, tokens, " "))
		b, _ := Parse("\n" + spread(m.rng, tokens, gaps...) + "// fact")
		c, _ := ParseExpr(spread(m.rng, expr, " "))
		d, _ := ParseExpr("//\n" + spread(m.rng, expr, gaps...) + " ")
		if !same(Strip(a), Strip(b)) || !same(Strip(c), Strip(d)) {
			t.Fatal(tokens, expr)
		}
	}
	a, _ := ParseExpr("least( a , ( EUR 1.00 ) )+table( x ; 0 : 0 + 1 / 2 )")
	b, _ := ParseExpr("least(a,(EUR 1.00))+table(x;0:0+1/2)")
	if a.Kind == 0 || !same(Strip(a), Strip(b)) {
		t.Error(a, b)
	}
}

// P7.4: the text of a valid expression with parentheses around every operand parses to it, and further parentheses change nothing.
func TestParentheses(t *testing.T) {
	rng := rand.New(rand.NewSource(4))
	read := 0
	for range 5000 {
		n := exprSample(rng, 4)
		for _, x := range []texter{{rng, 0}, {rng, 3}} {
			text := x.expr(n)
			if x.more > 0 {
				text = x.enclose(text)
			}
			if _, err, _ := lexer.Lex(text); err != api.OK {
				continue
			}
			got, diags := ParseExpr(text)
			if !same(Strip(got), n) || len(diags) > 0 {
				t.Fatal(text, diags, n)
			}
			read++
		}
	}
	if read < 8000 {
		t.Error(read)
	}
}

// parts returns two sources, as tokens are made.
func parts(seed int64) (string, string) {
	m := newMaker(seed, 0)
	return spread(m.rng, m.source(m.rng.Intn(4)), " ", "\n"), " " + spread(m.rng, m.source(m.rng.Intn(4)), " ", " // x\n")
}

// moved returns a tree with all offsets moved.
func moved(n api.Node, by int) api.Node {
	n.At += by
	n.Kids = slices.Clone(n.Kids)
	for i, kid := range n.Kids {
		n.Kids[i] = moved(kid, by)
	}
	return n
}

// P7.5: the items of two sources without diagnostics, joined by a line feed, are those of both.
func TestItems(t *testing.T) {
	joined := 0
	for seed := range int64(1000) {
		a, b := parts(seed)
		left, leftDiags := Parse(a)
		right, rightDiags := Parse(b)
		if len(leftDiags)+len(rightDiags) > 0 {
			continue
		}
		joined++
		got, diags := Parse(a + "\n" + b)
		want := api.Node{Kind: api.NodeSource, Kids: append(slices.Clone(left.Kids), moved(right, len(a)+1).Kids...)}
		if !same(got, want) || len(diags) > 0 {
			t.Fatal(a, b, diags)
		}
	}
	if joined < 500 {
		t.Error(joined)
	}
}

// P7.6: diagnostics have increasing offsets within the source, and each is an error that the chapter names.
func TestDiagnostics(t *testing.T) {
	errors := []api.Errno{api.ErrSyntax, api.ErrEnd, api.ErrDate, api.ErrRange, api.ErrLimit, api.ErrTwice}
	for seed := range int64(600) {
		m := newMaker(seed, 5)
		source := spread(m.rng, change(m.rng, m.source(20)), " ")
		_, diags := Parse(source)
		for i, d := range diags {
			if d.At < 0 || d.At > len(source) || i > 0 && d.At <= diags[i-1].At || !slices.Contains(errors, d.Err) {
				t.Fatal(source, diags)
			}
		}
		if len(diags) > maxDiags {
			t.Fatal(diags)
		}
	}
}

// P7.6: a token that begins no item, put between two sources, adds one diagnostic.
func TestOneMoreDiagnostic(t *testing.T) {
	words := slices.DeleteFunc(vocabulary(), func(s string) bool { return s == "fact" || s == "line" || s == "article" })
	for seed := range int64(1000) {
		a, _ := parts(seed)
		if _, diags := Parse(a); len(diags) > 0 {
			continue
		}
		m := newMaker(seed, 10)
		b := spread(m.rng, m.source(2), " ")
		_, later := Parse(b)
		token := words[seed%int64(len(words))]
		want := []api.Diag{{Err: api.ErrSyntax, At: len(a) + 1}}
		for _, d := range later {
			want = append(want, api.Diag{Err: d.Err, At: d.At + len(a) + 1 + len(token) + 1})
		}
		if _, diags := Parse(a + "\n" + token + "\n" + b); !slices.Equal(diags, want) {
			t.Fatal(a, token, b, diags, want)
		}
	}
}

// P7.7: if a source without diagnostics is cut between two tokens of an item, the only diagnostic is ErrEnd at its end.
func TestPrefixes(t *testing.T) {
	cuts := 0
	for seed := range int64(300) {
		a, _ := parts(seed)
		tree, diags := Parse(a)
		if len(diags) > 0 {
			continue
		}
		tokens, _, _ := lexer.Lex(a)
		for i := 1; i < len(tokens); i++ {
			between := slices.ContainsFunc(tree.Kids, func(n api.Node) bool { return n.At == tokens[i].At })
			for _, cut := range []string{a[:tokens[i].At], a[:tokens[i-1].At+len(tokens[i-1].Text)]} {
				want := []api.Diag{{Err: api.ErrEnd, At: len(cut)}}
				if between {
					want = nil
				}
				if _, diags := Parse(cut); !slices.Equal(diags, want) {
					t.Fatal(cut, diags)
				}
				cuts++
			}
		}
	}
	if cuts < 1000 {
		t.Error(cuts)
	}
}

// P7.1: Valid, compared with reading a text of the tree: a tree is valid if and only if it is read from a text.
func TestValidByText(t *testing.T) {
	rng := rand.New(rand.NewSource(7))
	valid, invalid := 0, 0
	for i := range 60000 {
		n := sourceSample(rng)
		if i%2 == 0 {
			n = exprSample(rng, 3)
		}
		if !Valid(n) {
			t.Fatal(n)
		}
		nodes := nodesOf(&n)
		for range rng.Intn(3) {
			spoil(rng, nodes[rng.Intn(len(nodes))])
		}
		text, parse := texter{}.expr(n), ParseExpr
		if n.Kind == api.NodeSource {
			text, parse = texter{}.source(n), Parse
		}
		if _, err, _ := lexer.Lex(text); err == api.ErrLimit {
			continue
		}
		got, _ := parse(text)
		want := n.Kind != 0 && same(Strip(got), n)
		if Valid(n) != want {
			t.Fatalf("%v %q is valid: %v", n, text, !want)
		}
		if want {
			valid++
		} else {
			invalid++
		}
	}
	if valid < 10000 || invalid < 10000 {
		t.Error(valid, invalid)
	}
}

// P7.1: Valid of trees at the bounds of each kind's fields. Offsets do not matter.
func TestValidBounds(t *testing.T) {
	x, one := ref("x", 0), number(1, 0)
	source := func(items ...api.Node) api.Node { return api.Node{Kind: api.NodeSource, Kids: items} }
	head := api.Node{Kind: api.NodeHead, From: 0, To: 1}
	amount := api.Node{Kind: api.NodeAmount, Kids: []api.Node{x}, At: -5}
	unless := api.Node{Kind: api.NodeUnless, Kids: []api.Node{one}}
	inArticle := func(kids ...api.Node) api.Node {
		return source(api.Node{Kind: api.NodeArticle, N: 1, Name: "x", Kids: kids})
	}
	table := func(den int, pieces ...api.Piece) api.Node {
		return api.Node{Kind: api.NodeTable, Table: api.Func{Den: den, Pieces: pieces}, Kids: []api.Node{x}}
	}
	for i, c := range []struct {
		n    api.Node
		want bool
	}{
		{source(), true},
		{api.Node{Kind: api.NodeSource, Kids: []api.Node{}, At: 9}, true},
		{api.Node{}, false},
		{source(source()), false},
		{source(x), false},
		{amount, false},
		{head, false},
		{inArticle(), false},
		{inArticle(head), false},
		{inArticle(amount), false},
		{inArticle(amount, head), false},
		{inArticle(head, amount), true},
		{inArticle(head, amount, amount), false},
		{inArticle(head, unless, amount), true},
		{inArticle(head, unless, amount, unless), false},
		{inArticle(head, head, amount), false},
		{inArticle(head, x, amount), false},
		{inArticle(api.Node{Kind: api.NodeHead, From: 36524, To: 36525, Known: 36524}, amount), true},
		{inArticle(api.Node{Kind: api.NodeHead, From: 36524, To: 36526}, amount), false},
		{inArticle(api.Node{Kind: api.NodeHead, From: 7, To: 7}, amount), false},
		{inArticle(api.Node{Kind: api.NodeHead, From: 1<<63 - 1, To: -1 << 63}, amount), false},
		{inArticle(api.Node{Kind: api.NodeHead, From: 0, To: 1, Known: 36525}, amount), false},
		{inArticle(api.Node{Kind: api.NodeHead, From: 0, To: 1, Known: -1}, amount), false},
		{table(1, api.Piece{}), true},
		{table(1000000, api.Piece{At: 999999999999 * 1000000, Slope: 1000000}, api.Piece{From: 999999999999, At: -999999999999 * 1000000, Slope: -1000000}), true},
		{table(1000001, api.Piece{}), false},
		{table(0, api.Piece{}), false},
		{table(-1, api.Piece{}), false},
		{table(1), false},
		{table(0), false},
		{table(1, api.Piece{At: 1000000000000}), false},
		{table(1, api.Piece{At: -1 << 63}), false},
		{table(2, api.Piece{At: 3}), false},
		{table(2, api.Piece{At: -3}), false},
		{table(1, api.Piece{Slope: 1000001}), false},
		{table(1, api.Piece{Slope: -1 << 63}), false},
		{table(1, api.Piece{}, api.Piece{From: 1000000000000}), false},
		{table(1, api.Piece{From: 1}), false},
		{table(1, api.Piece{From: -1}, api.Piece{}), false},
		{table(1, api.Piece{}, api.Piece{From: 2}, api.Piece{From: 2}), false},
		{table(1, api.Piece{}, api.Piece{From: 1<<63 - 1}, api.Piece{From: -1 << 63}), false},
	} {
		if Valid(c.n) != c.want {
			t.Error(i, c.n)
		}
	}
}

// P7.1: Valid keeps the limits of nodes, depths and pieces, and ends for trees that are far too large.
func TestValidLimits(t *testing.T) {
	call := func(kids int) api.Node {
		return api.Node{Kind: api.NodeCall, Name: "least", Kids: slices.Repeat([]api.Node{ref("x", 1)}, kids)}
	}
	nest := func(n api.Node, levels int) api.Node {
		for range levels {
			n = api.Node{Kind: api.NodeNot, Kids: []api.Node{n}}
		}
		return n
	}
	pieces := func(n int) api.Node {
		table := api.Node{Kind: api.NodeTable, Kids: []api.Node{ref("x", 0)}, Table: api.Func{Den: 1}}
		for i := range n {
			table.Table.Pieces = append(table.Table.Pieces, api.Piece{From: i})
		}
		return table
	}
	facts := api.Node{Kind: api.NodeSource, Kids: slices.Repeat([]api.Node{{Kind: api.NodeFact, Name: "x", Unit: "EUR"}}, 1999)}
	if !Valid(call(1999)) || Valid(call(2000)) || !Valid(nest(ref("x", 0), 39)) || Valid(nest(ref("x", 0), 40)) || !Valid(nest(call(1960), 38)) || Valid(nest(call(1961), 39)) {
		t.Error("the limits of nodes and depths")
	}
	if !Valid(pieces(64)) || Valid(pieces(65)) || !Valid(facts) || Valid(api.Node{Kind: api.NodeSource, Kids: append(facts.Kids, facts.Kids[0])}) {
		t.Error("the limits of pieces and items")
	}
	n := ref("x", 0)
	for range 60 {
		n = api.Node{Kind: api.NodeBinary, Name: "+", Kids: []api.Node{n, n}}
	}
	ring := []api.Node{{Kind: api.NodeNot}}
	ring[0].Kids = ring
	if Valid(n) || Valid(ring[0]) || Valid(nest(ref("x", 0), 60000)) {
		t.Error("trees that are too large")
	}
	if deep := Strip(nest(ref("x", 5), 60000)); deep.Kind != api.NodeNot {
		t.Error("a deep tree")
	}
}

// P7.1: names, units and key words, as Valid and the grammar know them.
func TestWords(t *testing.T) {
	texts := append(append(strings.Fields(keyWords), symbols()...), "", "x", "X", "x1", "1x", "a", "z", "az_09", "x`", "x{", "x/", "x:", "`x", "{x", "_x", "x_", "xX", "x-y", "x y", "é", "x\x00", "truths",
		"abcdefghijklmnop", "abcdefghijklmnopq", "EUR", "ZAZ", "EU", "EURO", "EUr", "E1R", "eur", "@@@", "[[[")
	for _, text := range texts {
		key := isKeyBy(text)
		tokens, err, _ := lexer.Lex(text)
		one := err == api.OK && len(tokens) == 1 && tokens[0].Text == text
		name := one && tokens[0].Kind == api.TokenName && !key
		unit := slices.Contains([]string{"truth", "number", "minutes"}, text) || one && tokens[0].Kind == api.TokenCur
		if Valid(ref(text, 0)) != name || Valid(api.Node{Kind: api.NodeNumber, N: 1, Unit: text}) != unit {
			t.Errorf("%q", text)
		}
		if _, diags := Parse("fact " + text + " : " + "EUR;"); (len(diags) == 0) != name {
			t.Errorf("%q: %v", text, diags)
		}
		if _, diags := Parse("line x : " + text + " info;"); (len(diags) == 0) != unit {
			t.Errorf("%q: %v", text, diags)
		}
	}
}

// P1: all functions return for all texts, and return no tree with diagnostics.
func TestAllTexts(t *testing.T) {
	rng := rand.New(rand.NewSource(11))
	for i := range 20000 {
		text := make([]byte, rng.Intn(40))
		for j := range text {
			text[j] = byte(rng.Intn(256))
			if i%2 == 0 {
				text[j] = " \n/()<>=;:,+-*0123456789.abEUR"[rng.Intn(30)]
			}
		}
		for _, parse := range []func(string) (api.Node, []api.Diag){Parse, ParseExpr} {
			n, diags := parse(string(text))
			if (len(diags) > 0) != same(n, api.Node{}) {
				t.Fatalf("%q: %v %v", text, n, diags)
			}
		}
	}
}
