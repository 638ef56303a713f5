package parser

import (
	"slices"
	"strconv"
	"strings"

	"wageoffice/api"
	"wageoffice/lexer"
)

// What follows reads sources by the chapter's grammar, token by token, and finds the trees of accepted tokens by dividing them.

const (
	maxRatio  = 1000000
	maxPieces = 64
	maxDiags  = 20
	maxTree   = 2000
	maxDepth  = 40
	noEnd     = 36525
)

const keyWords = "fact line article for rank from to known when unless amount truth number minutes min earn deduct floor info or and not at true false art weekday day month year least greatest table"

// grammar is the grammar of the chapter. Behind an @ there is the rule for the value of a token.
const grammar = `
item    = fact | line | article
fact    = "fact" name ":" unit ";"
line    = "line" name ":" unit ( "earn" | "deduct" | "floor" | "info" ) ";"
unit    = "truth" | "number" | "minutes" | cur
article = "article" number@article "for" name head "{" { clause } "}"@complete
head    = "rank" number@rank "from" date@from [ "to" date@to ] "known" date@known
clause  = "when" expr ";" | "unless"@once number@article { "," number@article } ";" | "amount"@once expr ";"
expr    = and { "or" and }
and     = neg { "and" neg }
neg     = "not" neg | comp
comp    = sum [ ( "==" | "!=" | "<" | "<=" | ">" | ">=" ) sum ]
sum     = term { ( "+" | "-" ) term }
term    = atom { ( "*" | "at" ) atom | "/" number@divisor }
atom    = number [ "min" ] | cur cents | "true" | "false" | name | "art" number@article | "weekday" | "day" | "month" | "year" | ( "least" | "greatest" ) "(" expr "," expr { "," expr } ")" | "table" "(" expr ";"@pieces piece { "," piece } ")"@slopes | "(" expr ")"
piece   = first ":" [ "-" ] second ( "+" | "-" ) number@numerator "/" number@denominator
first   = cents@first | number@first
second  = cents@second | number@second
`

// part is a part of the grammar: a token (op t), a rule (r), alternatives (|), a sequence (&), an option ([) or a repetition ({).
type part struct {
	op   byte
	word string
	rule string
	kids []*part
}

type grammarReader struct {
	words []string
}

// rulesOf reads the grammar.
func rulesOf(text string) map[string]*part {
	rules := map[string]*part{}
	for _, row := range strings.Split(strings.TrimSpace(text), "\n") {
		name, right, _ := strings.Cut(row, "=")
		g := &grammarReader{strings.Fields(right)}
		rules[strings.TrimSpace(name)] = g.alternatives()
	}
	return rules
}

func (g *grammarReader) alternatives() *part {
	p := &part{op: '|', kids: []*part{g.sequence()}}
	for len(g.words) > 0 && g.words[0] == "|" {
		g.words = g.words[1:]
		p.kids = append(p.kids, g.sequence())
	}
	return p
}

func (g *grammarReader) sequence() *part {
	p := &part{op: '&'}
	for len(g.words) > 0 && !strings.Contains("|)]}", g.words[0]) {
		p.kids = append(p.kids, g.element())
	}
	return p
}

func (g *grammarReader) element() *part {
	word := g.words[0]
	g.words = g.words[1:]
	if strings.Contains("([{", word) {
		kid := g.alternatives()
		g.words = g.words[1:]
		return &part{op: word[0], kids: []*part{kid}}
	}
	word, rule, _ := strings.Cut(word, "@")
	if word[0] == '"' || slices.Contains([]string{"name", "cur", "number", "cents", "date"}, word) {
		return &part{op: 't', word: word, rule: rule}
	}
	return &part{op: 'r', word: word}
}

// stack is what must still be read, with the next part on top.
type stack struct {
	top  *part
	rest *stack
}

// accept returns the stacks that remain when a token is read, and the parts that it is read as. Without a token, it returns a stack of nothing if nothing need be read.
func accept(rules map[string]*part, s *stack, token *api.Token) ([]*stack, []*part) {
	if s == nil {
		if token == nil {
			return []*stack{nil}, nil
		}
		return nil, nil
	}
	var stacks []*stack
	var parts []*part
	try := func(s *stack) {
		l, p := accept(rules, s, token)
		stacks, parts = append(stacks, l...), append(parts, p...)
	}
	switch s.top.op {
	case 't':
		if token != nil && matches(s.top.word, *token) {
			return []*stack{s.rest}, []*part{s.top}
		}
	case 'r':
		try(&stack{rules[s.top.word], s.rest})
	case '|':
		for _, kid := range s.top.kids {
			try(&stack{kid, s.rest})
		}
	case '&':
		rest := s.rest
		for _, kid := range slices.Backward(s.top.kids) {
			rest = &stack{kid, rest}
		}
		try(rest)
	case '(':
		try(&stack{s.top.kids[0], s.rest})
	case '[':
		try(s.rest)
		try(&stack{s.top.kids[0], s.rest})
	case '{':
		try(s.rest)
		try(&stack{s.top.kids[0], s})
	}
	return stacks, parts
}

func matches(word string, token api.Token) bool {
	switch word {
	case "name":
		return token.Kind == api.TokenName && !isKeyBy(token.Text)
	case "cur":
		return token.Kind == api.TokenCur
	case "number":
		return token.Kind == api.TokenNumber
	case "cents":
		return token.Kind == api.TokenCents
	case "date":
		return token.Kind == api.TokenDate
	}
	return word == `"`+token.Text+`"`
}

func isKeyBy(text string) bool { return slices.Contains(strings.Fields(keyWords), text) }

// values are the values of an item up to a token, as far as the rules need them.
type values struct {
	from         string
	seen         []string
	first        []int
	numerators   []int
	denominators []int
}

// check applies the rule for the value of a token.
func (v *values) check(rule string, token api.Token) api.Errno {
	n := digitsBy(token.Text)
	switch rule {
	case "article", "divisor":
		return errIf(n < 1 || n > maxRatio, api.ErrRange)
	case "rank":
		return errIf(n > maxRatio, api.ErrRange)
	case "from":
		v.from = token.Text
		return errIf(dayBy(token.Text) < 0, api.ErrDate)
	case "to":
		return errIf(dayBy(token.Text) < 0 || token.Text <= v.from, api.ErrDate)
	case "known":
		return errIf(dayBy(token.Text) < 0, api.ErrDate)
	case "once":
		twice := slices.Contains(v.seen, token.Text)
		v.seen = append(v.seen, token.Text)
		return errIf(twice, api.ErrTwice)
	case "complete":
		return errIf(!slices.Contains(v.seen, "amount"), api.ErrSyntax)
	}
	return v.checkPiece(rule, token)
}

func (v *values) checkPiece(rule string, token api.Token) api.Errno {
	n := digitsBy(token.Text)
	switch rule {
	case "pieces":
		v.first, v.numerators, v.denominators = nil, nil, nil
	case "first":
		v.first = append(v.first, n)
		if token.Kind == api.TokenNumber && n != 0 || len(v.first) == 1 && n != 0 || len(v.first) > 1 && n <= v.first[len(v.first)-2] {
			return api.ErrRange
		}
		return errIf(len(v.first) > maxPieces, api.ErrLimit)
	case "second":
		return errIf(token.Kind == api.TokenNumber && n != 0, api.ErrRange)
	case "numerator":
		v.numerators = append(v.numerators, n)
		return errIf(n > maxRatio, api.ErrRange)
	case "denominator":
		v.denominators = append(v.denominators, n)
		if n < 1 || n > maxRatio {
			return api.ErrRange
		}
		return errIf(multipleBy(v.denominators) == 0, api.ErrLimit)
	case "slopes":
		for i, n := range v.numerators {
			if n*(multipleBy(v.denominators)/v.denominators[i]) > maxRatio {
				return api.ErrLimit
			}
		}
	}
	return api.OK
}

func errIf(is bool, err api.Errno) api.Errno {
	if is {
		return err
	}
	return api.OK
}

// digitsBy returns the number that the digits of a text are.
func digitsBy(text string) int {
	n := 0
	for _, b := range text {
		if '0' <= b && b <= '9' {
			n = 10*n + int(b-'0')
		}
	}
	return n
}

// multipleBy returns the least number up to the limit that all denominators divide, or 0.
func multipleBy(denominators []int) int {
	for n := slices.Max(denominators); n <= maxRatio; n += slices.Max(denominators) {
		if !slices.ContainsFunc(denominators, func(d int) bool { return n%d != 0 }) {
			return n
		}
	}
	return 0
}

// dayBy returns the day of a date, or -1, by counting through all days before.
func dayBy(date string) int {
	days := 0
	for year := 2000; year < 2100; year++ {
		for month := 1; month <= 12; month++ {
			length := [13]int{0, 31, 28, 31, 30, 31, 30, 31, 31, 30, 31, 30, 31}[month]
			if month == 2 && year%4 == 0 {
				length = 29
			}
			text := strconv.Itoa(year) + "-" + strconv.Itoa(100 + month)[1:] + "-"
			if day, err := strconv.Atoi(strings.TrimPrefix(date, text)); err == nil && strings.HasPrefix(date, text) {
				if 1 <= day && day <= length {
					return days + day - 1
				}
				return -1
			}
			days += length
		}
	}
	return -1
}

// readBy reads tokens by a rule of the grammar. It returns how many tokens were read before the end or the first error.
func readBy(rules map[string]*part, rule string, tokens []api.Token, whole bool, size int) (int, api.Diag) {
	s := &stack{&part{op: 'r', word: rule}, nil}
	var v values
	for i := range tokens {
		if s == nil && !whole {
			return i, api.Diag{}
		}
		stacks, parts := accept(rules, s, &tokens[i])
		if len(stacks) > 1 {
			panic("the grammar is not clear")
		}
		if len(stacks) == 0 {
			return i, api.Diag{Err: api.ErrSyntax, At: tokens[i].At}
		}
		if err := v.check(parts[0].rule, tokens[i]); err != api.OK {
			return i, api.Diag{Err: err, At: tokens[i].At}
		}
		s = stacks[0]
	}
	if stacks, _ := accept(rules, s, nil); len(stacks) > 0 {
		return len(tokens), api.Diag{}
	}
	return len(tokens), api.Diag{Err: api.ErrEnd, At: size}
}

// parseBy is the chapter's definition of Parse.
func parseBy(rules map[string]*part, source string) (api.Node, []api.Diag) {
	tokens, err, at := lexer.Lex(source)
	if err != api.OK {
		return api.Node{}, []api.Diag{{Err: err, At: at}}
	}
	tree := api.Node{Kind: api.NodeSource}
	var diags []api.Diag
	for len(tokens) > 0 && len(diags) < maxDiags {
		n, diag := readBy(rules, "item", tokens, false, len(source))
		if diag.Err == api.OK {
			tree.Kids = append(tree.Kids, itemBy(tokens[:n]))
			tokens = tokens[n:]
			continue
		}
		diags = append(diags, diag)
		for tokens = tokens[n:]; len(tokens) > 0 && !slices.Contains([]string{"fact", "line", "article"}, tokens[0].Text); {
			tokens = tokens[1:]
		}
	}
	return limitedBy(tree, diags)
}

// parseExprBy is the chapter's definition of ParseExpr.
func parseExprBy(rules map[string]*part, text string) (api.Node, []api.Diag) {
	tokens, err, at := lexer.Lex(text)
	if err != api.OK {
		return api.Node{}, []api.Diag{{Err: err, At: at}}
	}
	_, diag := readBy(rules, "expr", tokens, true, len(text))
	if diag.Err != api.OK {
		return api.Node{}, []api.Diag{diag}
	}
	return limitedBy(exprBy(tokens), nil)
}

func limitedBy(tree api.Node, diags []api.Diag) (api.Node, []api.Diag) {
	if nodes, depth := sizeBy(tree); len(diags) == 0 && (nodes > maxTree || depth > maxDepth) {
		diags = []api.Diag{{Err: api.ErrLimit}}
	}
	if len(diags) > 0 {
		return api.Node{}, diags
	}
	return tree, nil
}

// sizeBy returns the number of nodes and the depth of a tree.
func sizeBy(n api.Node) (int, int) {
	nodes, depth := 1, 0
	for _, kid := range n.Kids {
		more, deep := sizeBy(kid)
		nodes, depth = nodes+more, max(depth, deep)
	}
	return nodes, depth + 1
}

// itemBy returns the node of the tokens of an item.
func itemBy(tokens []api.Token) api.Node {
	n := api.Node{Name: tokens[1].Text, At: tokens[0].At}
	switch tokens[0].Text {
	case "fact":
		n.Kind, n.Unit = api.NodeFact, tokens[3].Text
	case "line":
		n.Kind, n.Unit = api.NodeLine, tokens[3].Text
		n.N = 1 + slices.Index([]string{"earn", "deduct", "floor", "info"}, tokens[4].Text)
	case "article":
		n.Kind, n.N, n.Name = api.NodeArticle, digitsBy(tokens[1].Text), tokens[3].Text
		open := slices.IndexFunc(tokens, func(t api.Token) bool { return t.Text == "{" })
		n.Kids = []api.Node{headBy(tokens[4:open])}
		for _, clause := range divide(tokens[open+1:len(tokens)-1], ";") {
			if len(clause) > 0 {
				n.Kids = append(n.Kids, clauseBy(clause))
			}
		}
	}
	return n
}

func headBy(tokens []api.Token) api.Node {
	n := api.Node{Kind: api.NodeHead, To: noEnd, N: digitsBy(tokens[1].Text), At: tokens[0].At}
	for i, t := range tokens {
		switch t.Text {
		case "from":
			n.From = dayBy(tokens[i+1].Text)
		case "to":
			n.To = dayBy(tokens[i+1].Text)
		case "known":
			n.Known = dayBy(tokens[i+1].Text)
		}
	}
	return n
}

func clauseBy(tokens []api.Token) api.Node {
	n := api.Node{Kind: map[string]int{"when": api.NodeWhen, "unless": api.NodeUnless, "amount": api.NodeAmount}[tokens[0].Text], At: tokens[0].At}
	for _, kid := range divide(tokens[1:], ",") {
		n.Kids = append(n.Kids, exprBy(kid))
	}
	return n
}

// divide divides tokens at those with a text that are in no parentheses.
func divide(tokens []api.Token, text string) [][]api.Token {
	var parts [][]api.Token
	depth, begin := 0, 0
	for i, t := range tokens {
		switch t.Text {
		case "(":
			depth++
		case ")":
			depth--
		}
		if depth == 0 && t.Text == text {
			parts = append(parts, tokens[begin:i])
			begin = i + 1
		}
	}
	return append(parts, tokens[begin:])
}

// last returns the index of the last operator that is in no parentheses and is one of some, or -1.
func last(tokens []api.Token, operators ...string) int {
	depth, at := 0, -1
	for i, t := range tokens {
		switch t.Text {
		case "(":
			depth++
		case ")":
			depth--
		}
		if depth == 0 && slices.Contains(operators, t.Text) {
			at = i
		}
	}
	return at
}

// exprBy returns the tree of the tokens of an expression: it is divided at the last operator that binds least.
func exprBy(tokens []api.Token) api.Node {
	for _, level := range [][]string{{"or"}, {"and"}, {"not"}, {"==", "!=", "<", "<=", ">", ">="}, {"+", "-"}, {"*", "/", "at"}} {
		if level[0] == "not" && tokens[0].Text == "not" {
			return api.Node{Kind: api.NodeNot, Kids: []api.Node{exprBy(tokens[1:])}, At: tokens[0].At}
		}
		at := last(tokens, level...)
		if at < 0 || level[0] == "not" {
			continue
		}
		left, right := exprBy(tokens[:at]), exprBy(tokens[at+1:])
		n := api.Node{Kind: api.NodeBinary, Name: tokens[at].Text, Kids: []api.Node{left, right}, At: left.At}
		switch n.Name {
		case ">":
			n.Name, n.Kids = "<", []api.Node{right, left}
		case ">=":
			n.Name, n.Kids = "<=", []api.Node{right, left}
		}
		return n
	}
	return atomBy(tokens)
}

func atomBy(tokens []api.Token) api.Node {
	n := api.Node{Name: tokens[0].Text, At: tokens[0].At}
	switch tokens[0].Text {
	case "(":
		return exprBy(tokens[1 : len(tokens)-1])
	case "true":
		return api.Node{Kind: api.NodeNumber, Unit: "truth", N: 1, At: n.At}
	case "false":
		return api.Node{Kind: api.NodeNumber, Unit: "truth", At: n.At}
	case "art":
		return api.Node{Kind: api.NodeArt, N: digitsBy(tokens[1].Text), At: n.At}
	case "weekday", "day", "month", "year":
		n.Kind = api.NodeDate
		return n
	case "least", "greatest":
		n.Kind = api.NodeCall
		for _, kid := range divide(tokens[2:len(tokens)-1], ",") {
			n.Kids = append(n.Kids, exprBy(kid))
		}
		return n
	case "table":
		return tableBy(tokens)
	}
	switch tokens[0].Kind {
	case api.TokenCur:
		return api.Node{Kind: api.NodeNumber, N: digitsBy(tokens[1].Text), Unit: tokens[0].Text, At: n.At}
	case api.TokenNumber:
		unit := "number"
		if len(tokens) == 2 {
			unit = "minutes"
		}
		return api.Node{Kind: api.NodeNumber, N: digitsBy(tokens[0].Text), Unit: unit, At: n.At}
	}
	n.Kind = api.NodeRef
	return n
}

func tableBy(tokens []api.Token) api.Node {
	parts := divide(tokens[2:len(tokens)-1], ";")
	n := api.Node{Kind: api.NodeTable, Kids: []api.Node{exprBy(parts[0])}, At: tokens[0].At}
	pieces := divide(parts[1], ",")
	var denominators []int
	for _, p := range pieces {
		denominators = append(denominators, digitsBy(p[len(p)-1].Text))
	}
	n.Table.Den = multipleBy(denominators)
	for i, p := range pieces {
		at, slope := digitsBy(p[len(p)-5].Text), digitsBy(p[len(p)-3].Text)*n.Table.Den/denominators[i]
		if p[2].Text == "-" {
			at = -at
		}
		if p[len(p)-4].Text == "-" {
			slope = -slope
		}
		n.Table.Pieces = append(n.Table.Pieces, api.Piece{From: digitsBy(p[0].Text), At: at * n.Table.Den, Slope: slope})
	}
	return n
}

// same reports whether two trees are equal. A nil slice equals an empty one.
func same(a, b api.Node) bool {
	return a.Kind == b.Kind && a.Name == b.Name && a.Unit == b.Unit && a.N == b.N && a.At == b.At &&
		a.From == b.From && a.To == b.To && a.Known == b.Known &&
		a.Table.Den == b.Table.Den && slices.Equal(a.Table.Pieces, b.Table.Pieces) && slices.EqualFunc(a.Kids, b.Kids, same)
}
