package lexer

import (
	"math/rand"
	"regexp"
	"slices"
	"strings"
	"testing"

	"wageoffice/api"
)

const (
	maxSource = 6000
	maxTokens = 2000
)

// form is what the tokens of a kind look like, with what may follow them.
type form struct {
	kind int
	text *regexp.Regexp
}

// forms are the chapter's definitions of the tokens. Where there is a date form, neither cents nor a number is read.
func forms() []form {
	const (
		afterWord   = `(?:[^a-zA-Z0-9_]|\z)`
		afterDigits = `(?:[^a-zA-Z0-9_.]|\z)`
	)
	return []form{
		{api.TokenName, regexp.MustCompile(`\A([a-z][a-z0-9_]{0,15})` + afterWord)},
		{api.TokenCur, regexp.MustCompile(`\A([A-Z]{3})` + afterWord)},
		{api.TokenDate, regexp.MustCompile(`\A([0-9]{4}-[0-9]{2}-[0-9]{2})` + afterDigits)},
		{api.TokenCents, regexp.MustCompile(`\A((?:0|[1-9][0-9]{0,9})\.[0-9]{2})` + afterDigits)},
		{api.TokenNumber, regexp.MustCompile(`\A(0|[1-9][0-9]{0,11})` + afterDigits)},
		{api.TokenSymbol, regexp.MustCompile(`\A(==|!=|<=|>=|<|>|\+|-|\*|/|\(|\)|\{|\}|:|;|,)`)},
	}
}

var (
	tokenForms = forms()
	likeDate   = regexp.MustCompile(`\A[0-9]{4}-[0-9]{2}-[0-9]{2}`)
	leadingGap = regexp.MustCompile(`\A(?:[ \t\n\r]|//[^\n]*)*`)
	gapBetween = regexp.MustCompile(`\A(?:[ \t\n\r]|//[^\n]*\n)*\z`)
	gapAtEnd   = regexp.MustCompile(`\A(?:[ \t\n\r]|//[^\n]*(?:\n|\z))*\z`)
)

// tokenBy is the chapter's definition of the token with which a text begins; it has no kind if there is none.
func tokenBy(text string) api.Token {
	for _, f := range tokenForms {
		number := f.kind == api.TokenCents || f.kind == api.TokenNumber
		if found := f.text.FindStringSubmatch(text); found != nil && !(number && likeDate.MatchString(text)) {
			return api.Token{Kind: f.kind, Text: found[1]}
		}
	}
	return api.Token{}
}

// lexBy is the chapter's definition of Lex.
func lexBy(source string) ([]api.Token, api.Errno, int) {
	if len(source) > maxSource {
		return nil, api.ErrLimit, 0
	}
	var list []api.Token
	at := 0
	for {
		at += len(leadingGap.FindString(source[at:]))
		if at == len(source) {
			return list, api.OK, 0
		}
		if len(list) == maxTokens {
			return nil, api.ErrLimit, at
		}
		token := tokenBy(source[at:])
		if token.Kind == 0 {
			return nil, api.ErrToken, at
		}
		token.At = at
		list = append(list, token)
		at += len(token.Text)
	}
}

// compare compares Lex with the definition.
func compare(t *testing.T, source string) {
	t.Helper()
	list, err, at := Lex(source)
	wantList, wantErr, wantAt := lexBy(source)
	if !slices.Equal(list, wantList) || err != wantErr || at != wantAt {
		t.Fatalf("%.200q: %v, %v, %d; want %v, %v, %d", source, list, err, at, wantList, wantErr, wantAt)
	}
}

// tokensIn returns the tokens of a source without errors.
func tokensIn(t *testing.T, source string) []api.Token {
	t.Helper()
	list, err, at := Lex(source)
	if err != api.OK || at != 0 {
		t.Fatalf("%.200q: %v, %v, %d", source, list, err, at)
	}
	return list
}

// refuse checks the error of a source.
func refuse(t *testing.T, source string, want api.Errno, wantAt int) {
	t.Helper()
	if list, err, at := Lex(source); len(list) > 0 || err != want || at != wantAt {
		t.Errorf("%.200q: %v, %v, %d; want %v, %d", source, list, err, at, want, wantAt)
	}
}

// checkOne checks that a source is one token.
func checkOne(t *testing.T, source string, kind int) {
	t.Helper()
	if list := tokensIn(t, source); !slices.Equal(list, []api.Token{{Kind: kind, Text: source}}) {
		t.Errorf("%q: %v", source, list)
	}
}

func last(list []string) string { return list[len(list)-1] }

func pick(random *rand.Rand, list []string) string { return list[random.Intn(len(list))] }

// textsOfTokens are tokens of all kinds, with those at the bounds of their forms.
func textsOfTokens() []string {
	return append(strings.Fields("a z a_ a0 a_1 article known abcdefghijklmnop a23456789_123456 EUR USD AAA ZZZ"+
		" 0 1 9 10 2024 999999999999 123456789012 0.00 0.50 1.05 12.50 1234567890.12 9999999999.99 2024-02-30 0000-00-00 9999-99-99"), allSymbols()...)
}

func allSymbols() []string {
	return strings.Fields("== != <= >= < > + - * / ( ) { } : ; ,")
}

// notTokens are texts at whose first byte no token begins. Many of them just miss a form.
func notTokens() []string {
	return slices.Concat(
		strings.Fields("_ _a aB a_B aEUR abcdefghijklmnopq E EU EURO EU1 E_R EUr EUR1 EUR_ EURa"),
		strings.Fields("00 007 01 1x 1_ 1E 1. 1.5 1.500 1.50. 1.50x 1.50_ 1.5x 1..50 00.50 01.00 .50 . 1234567890123 12345678901.00 123456789012.00"),
		strings.Fields("2024-01-011 2024-01-01x 2024-01-01_ 2024-01-01. 2024-01-01.50 0000-00-000"),
		strings.Fields("= ! =! =< => !> !! & | % $ # @ ? [ ] ^ ~ \" ' ` \\ \x00 \x01 \x7f \x80 \xff \xc3 é Ä ß ０"),
		[]string{"\v", "\f", "\b", "\u00a0", "\ufeff", "\u2028"},
	)
}

// gaps are gaps that are not empty, whatever follows them, and begin without a slash.
func gaps() []string {
	return []string{" ", "\t", "\n", "\r", "\r\n", "  \t ", "\n\n\n", " //\n", "\t// x\n", "\n//a 1 EUR $ é\xff\x00\n", " ///\n", " // // /\n//\r\r\n ", " //\n//\n", "\r// x\r\n\t"}
}

// randomTokens returns some tokens.
func randomTokens(random *rand.Rand, most int) []string {
	texts := textsOfTokens()
	list := make([]string, random.Intn(most+1))
	for i := range list {
		list[i] = pick(random, texts)
	}
	return list
}

// joined returns a source of some tokens with gaps between them, and perhaps at both ends.
func joined(random *rand.Rand, tokens []string) string {
	var source strings.Builder
	ends := append(gaps(), "", "", "", "//\n", "// x\n")
	source.WriteString(pick(random, ends))
	for i, token := range tokens {
		if i > 0 {
			source.WriteString(pick(random, gaps()))
		}
		source.WriteString(token)
	}
	if len(tokens) == 0 || last(tokens) != "/" {
		source.WriteString(pick(random, append(ends, "//", "// end", "///")))
	} else {
		source.WriteString(pick(random, append(gaps(), "", " //", " // end")))
	}
	return source.String()
}

// validSources are sources without errors: some with gaps between all tokens, and some with tokens that touch one another.
func validSources() []string {
	random := rand.New(rand.NewSource(1))
	list := []string{"", " ", "//", "// x", "///", "/", "a", "article 12 for basic { // pay\n\twhen hours>=8 min; amount EUR 12.50*2-0; } 2024-02-30", "(a+b)*2-1/3", "a<b,c<=d;e==-1", "2024-01-01-2024-1-1", "<=>=", "{}//x\n{}", "EUR/EUR"}
	for range 600 {
		list = append(list, joined(random, randomTokens(random, 12)))
	}
	for range 20 {
		list = append(list, joined(random, randomTokens(random, 400)))
	}
	for range 2000 {
		source := strings.Join(randomTokens(random, 6), pick(random, []string{"", "", ";", " ", "/"}))
		if _, err, _ := lexBy(source); err == api.OK {
			list = append(list, source)
		}
	}
	return list
}

// mixedSources are put together from tokens, gaps and other texts; most of them have an error somewhere.
func mixedSources() []string {
	random := rand.New(rand.NewSource(2))
	pieces := slices.Concat(textsOfTokens(), textsOfTokens(), gaps(), gaps(), notTokens(), []string{"/", "//", ".", "-", "0", "a", "A", "\n"})
	var list []string
	for range 40000 {
		var source strings.Builder
		for range random.Intn(9) {
			source.WriteString(pick(random, pieces))
		}
		list = append(list, source.String())
	}
	return list
}

// P6.1: the chapter's examples.
func TestExamples(t *testing.T) {
	for _, x := range []struct {
		source string
		want   []api.Token
	}{
		{"hours >= 8 min // x", []api.Token{{Kind: api.TokenName, Text: "hours", At: 0}, {Kind: api.TokenSymbol, Text: ">=", At: 6}, {Kind: api.TokenNumber, Text: "8", At: 9}, {Kind: api.TokenName, Text: "min", At: 11}}},
		{"EUR 12.50*2", []api.Token{{Kind: api.TokenCur, Text: "EUR", At: 0}, {Kind: api.TokenCents, Text: "12.50", At: 4}, {Kind: api.TokenSymbol, Text: "*", At: 9}, {Kind: api.TokenNumber, Text: "2", At: 10}}},
		{"2024-02-30", []api.Token{{Kind: api.TokenDate, Text: "2024-02-30", At: 0}}},
	} {
		if list := tokensIn(t, x.source); !slices.Equal(list, x.want) {
			t.Error(x.source, list)
		}
	}
	refuse(t, "2024-02", api.ErrToken, 5)
	refuse(t, "12.5", api.ErrToken, 0)
	refuse(t, "007", api.ErrToken, 0)
	refuse(t, "EURO", api.ErrToken, 0)
	refuse(t, "a!b", api.ErrToken, 1)
}

// P6.1: each kind of token, with those at the bounds of its form.
func TestKinds(t *testing.T) {
	for _, x := range []struct {
		kind  int
		texts []string
	}{
		{api.TokenName, strings.Fields("a z m9 a_ a__ z_9 x0 article min eur abcdefghijklmnop a_23456789012345 q______________q")},
		{api.TokenCur, strings.Fields("AAA ZZZ EUR USD AZM")},
		{api.TokenNumber, strings.Fields("0 1 9 10 19 100 2024 20240101 99999999999 100000000000 999999999999")},
		{api.TokenCents, strings.Fields("0.00 0.01 0.99 1.00 9.99 10.00 2024.01 1000000000.00 9999999999.99")},
		{api.TokenDate, strings.Fields("2024-01-01 0000-00-00 9999-99-99 2024-02-30 0001-13-32")},
		{api.TokenSymbol, allSymbols()},
	} {
		for _, text := range x.texts {
			checkOne(t, text, x.kind)
		}
	}
}

// P6.1 and P1: texts that no token begins, alone, after a token and a gap, and before other errors.
func TestNoToken(t *testing.T) {
	for _, text := range notTokens() {
		refuse(t, text, api.ErrToken, 0)
		refuse(t, text+" a", api.ErrToken, 0)
		refuse(t, "a "+text, api.ErrToken, 2)
		refuse(t, "\t//"+text+"\n;"+text+"\n$", api.ErrToken, len("\t//"+text+"\n;"))
		if list := tokensIn(t, "// "+text); len(list) > 0 {
			t.Errorf("%q: %v", text, list)
		}
	}
}

// P6.1: where a token ends, and what may follow it.
func TestEndsOfTokens(t *testing.T) {
	for _, x := range [][2]string{
		{"a+b", "a + b"}, {"a-1", "a - 1"}, {"EUR(EUR)", "EUR ( EUR )"}, {"EUR-1.00", "EUR - 1.00"}, {"1-2", "1 - 2"}, {"1.50-2", "1.50 - 2"}, {"1;2,3:4", "1 ; 2 , 3 : 4"},
		{"a//b", "a"}, {"a/ /b", "a / / b"}, {"a//b\n//\nc", "a c"}, {"///", ""}, {"/ //", "/"}, {"/\n//\n/", "/ /"}, {"//$\r$", ""},
		{"2024-10-01", "2024-10-01"}, {"2024-01-01-", "2024-01-01 -"}, {"2024-01-01-2024-01-01", "2024-01-01 - 2024-01-01"},
		{"2024-1-1", "2024 - 1 - 1"}, {"2024-10-1", "2024 - 10 - 1"}, {"2024-10", "2024 - 10"}, {"2024-1-10", "2024 - 1 - 10"}, {"12024-10-10", "12024 - 10 - 10"}, {"224-10-10", "224 - 10 - 10"}, {"2024 -10-10", "2024 - 10 - 10"}, {"2024+10-10", "2024 + 10 - 10"}, {"2024-10+10", "2024 - 10 + 10"},
		{"<=>", "<= >"}, {"====", "== =="}, {">>=", "> >="}, {"<>", "< >"}, {"<<=<", "< <= <"}, {"-->", "- - >"}, {"a==b!=c", "a == b != c"}, {"1<=2>=3", "1 <= 2 >= 3"},
	} {
		var texts []string
		for _, token := range tokensIn(t, x[0]) {
			texts = append(texts, token.Text)
		}
		if strings.Join(texts, " ") != x[1] {
			t.Errorf("%q: %q", x[0], texts)
		}
	}
	for source, at := range map[string]int{
		"2024-01": 5, "2024-01-1": 5, "2024-00-1": 5, "12024-01-01": 6, "202a-01-01": 0, "2024-0a-01": 5, "2024-10-0a": 8, "2024-01-01é": 10, "2024-01-01\x00": 10,
		"aé": 1, "a\v": 1, "EUR.50": 3, "EUR€": 3, "1é": 1, "1.50é": 4, "===": 2, "!==": 2, "<==": 2, "a=b": 1, "a = b": 2, "a//\n$": 4, "//$\n$": 4, "/$": 1, ";.": 1,
	} {
		refuse(t, source, api.ErrToken, at)
	}
}

// P6.1: the limits of bytes and of tokens, at both sides.
func TestLimits(t *testing.T) {
	for _, source := range []string{strings.Repeat(" ", maxSource), "//" + strings.Repeat("$", maxSource-2), strings.Repeat("(", maxTokens) + " // $" + strings.Repeat("é", 1000), strings.Repeat("10\n", maxTokens), strings.Repeat("abcdefg EUR ", maxSource/12)} {
		tokensIn(t, source)
		compare(t, source)
	}
	if n := len(tokensIn(t, strings.Repeat("10\n", maxTokens))); n != maxTokens {
		t.Error(n)
	}
	for _, source := range []string{strings.Repeat(" ", maxSource+1), strings.Repeat("a", maxSource+1), "//" + strings.Repeat("é", maxSource/2), strings.Repeat("a ", 1000000)} {
		refuse(t, source, api.ErrLimit, 0)
	}
	refuse(t, strings.Repeat(";", maxTokens+1), api.ErrLimit, maxTokens)
	refuse(t, strings.Repeat("a b+", maxSource/4), api.ErrLimit, maxTokens/3*4+3)
	refuse(t, strings.Repeat(" ", maxSource-1)+"$", api.ErrToken, maxSource-1)
}

// P6.1: which error comes first. Whatever begins after the last token that is allowed, it exceeds the limit.
func TestFirstError(t *testing.T) {
	for _, rest := range []string{"a", "$", "/", "007", "é", "_", strings.Repeat("a", 17), ".5 $", "; $"} {
		refuse(t, strings.Repeat(";", maxTokens)+rest, api.ErrLimit, maxTokens)
		refuse(t, strings.Repeat(";", maxTokens)+" // x\n\t"+rest, api.ErrLimit, maxTokens+7)
		refuse(t, strings.Repeat("1\n", maxTokens)+rest, api.ErrLimit, 2*maxTokens)
	}
	for _, count := range []int{0, 1, maxTokens - 2, maxTokens - 1} {
		refuse(t, strings.Repeat(";", count)+"$"+strings.Repeat(";", maxTokens), api.ErrToken, count)
	}
	refuse(t, strings.Repeat("$", maxSource+1), api.ErrLimit, 0)
	refuse(t, strings.Repeat(";", maxSource+1), api.ErrLimit, 0)
}

// P6.1: all sources of up to four bytes out of some of all classes, and of up to six out of a few.
func TestShortSources(t *testing.T) {
	var visit func(source, bytes string, left int)
	visit = func(source, bytes string, left int) {
		compare(t, source)
		for i := range len(bytes) {
			if left > 0 {
				visit(source+bytes[i:i+1], bytes, left-1)
			}
		}
	}
	visit("", "az9E0_.-/=!<> \n\r(;$\xc3", 4)
	visit("", "0.5a", 7)
	visit("", "/ \na", 7)
	visit("", "EU_ ", 6)
	visit("", "=<>!", 6)
}

// P6.1: every byte at every place of some sources, in place of the byte there and before it.
func TestEveryByte(t *testing.T) {
	for _, base := range []string{"2024-02-29", "12024-10-11", "1234567890.12", "123456789012", "1234567890123", "0.50", "EUR", "a b", "abcdefghijklmnop", "a // b\nc", "x<=y", "/", ""} {
		for place := range len(base) + 1 {
			for b := range 256 {
				text := string([]byte{byte(b)})
				compare(t, base[:place]+text+base[place:])
				if place < len(base) {
					compare(t, base[:place]+text+base[place+1:])
				}
			}
		}
	}
}

// P6.1: dates, cents and numbers of every number of digits.
func TestDigits(t *testing.T) {
	for whole := range 25 {
		for _, first := range []string{"0", "1", "9"} {
			digits := (first + strings.Repeat("50", 12))[:whole]
			for _, rest := range []string{"", ".", ".5", ".55", ".555", ".55.", ".55-", ".55a", ".5a", ".a5", "-", "-10-10", "-10-1", "-1-10", "-10-100", "-10-10.", "-10-10.50", "-10-10-10", " 1", "+1", "e5", "E5", "_", "é"} {
				compare(t, digits+rest)
				compare(t, "a "+digits+rest+";")
			}
		}
	}
}

// P6.1: every two and three tokens that touch one another.
func TestTouchingTokens(t *testing.T) {
	texts := textsOfTokens()
	for i, a := range texts {
		for j, b := range texts {
			compare(t, a+b)
			compare(t, a+b+texts[(7*i+11*j)%len(texts)])
		}
	}
}

// P6.1 and P1: sources with and without errors from fixed seeds, and random bytes.
func TestManySources(t *testing.T) {
	for _, source := range append(validSources(), mixedSources()...) {
		compare(t, source)
	}
	random := rand.New(rand.NewSource(3))
	for range 20000 {
		source := make([]byte, random.Intn(12))
		for i := range source {
			source[i] = byte(random.Intn(256))
		}
		compare(t, string(source))
	}
	for range 30 {
		compare(t, strings.Join(randomTokens(random, 4000), " "))
	}
}

// P6.2: the tokens are in order, each one is the part of the source at its offset, and the rest are gaps.
func TestCoverage(t *testing.T) {
	for _, source := range validSources() {
		end := 0
		for _, token := range tokensIn(t, source) {
			if token.At < end || token.Text == "" || !strings.HasPrefix(source[token.At:], token.Text) || !gapBetween.MatchString(source[end:token.At]) {
				t.Fatalf("%q: %v after %d", source, token, end)
			}
			end = token.At + len(token.Text)
		}
		if !gapAtEnd.MatchString(source[end:]) {
			t.Fatalf("%q: no gap after %d", source, end)
		}
	}
}

// P6.3: the source up to the end of a token has the tokens up to this one.
func TestPrefixes(t *testing.T) {
	for _, source := range validSources() {
		list := tokensIn(t, source)
		for i, token := range list {
			if got := tokensIn(t, source[:token.At+len(token.Text)]); !slices.Equal(got, list[:i+1]) {
				t.Fatalf("%q up to %v: %v", source, token, got)
			}
		}
	}
}

// P6.4: the same tokens with other gaps between them have the same kinds and texts, and the offsets that these gaps give them.
func TestGaps(t *testing.T) {
	random := rand.New(rand.NewSource(4))
	check := func(list []api.Token, gap func() string) {
		source := pick(random, append(gaps(), "", "//\n"))
		want := slices.Clone(list)
		for i := range want {
			want[i].At = len(source)
			source += want[i].Text + gap()
		}
		if got := tokensIn(t, source); !slices.Equal(got, want) {
			t.Fatalf("%q: %v, want %v", source, got, want)
		}
	}
	for _, source := range validSources() {
		list := tokensIn(t, source)
		if len(list) > 200 {
			continue // with longer gaps there would be too many bytes
		}
		check(list, func() string { return pick(random, gaps()) })
		check(list, func() string { return " " })
	}
	texts := textsOfTokens()
	for _, a := range texts {
		for _, b := range texts {
			for _, gap := range gaps() {
				check(slices.Concat(tokensIn(t, a), tokensIn(t, b)), func() string { return gap })
			}
		}
	}
}

// P6.5: two sources without errors, joined by a line feed, have the tokens of both.
func TestConcatenation(t *testing.T) {
	sources := validSources()
	for i, a := range sources {
		for j := range 5 {
			b := sources[(17*i+j)%len(sources)]
			first, second := tokensIn(t, a), slices.Clone(tokensIn(t, b))
			if len(a)+1+len(b) > maxSource || len(first)+len(second) > maxTokens {
				continue
			}
			for k := range second {
				second[k].At += len(a) + 1
			}
			if got := tokensIn(t, a+"\n"+b); !slices.Equal(got, slices.Concat(first, second)) {
				t.Fatalf("%q and %q: %v", a, b, got)
			}
		}
	}
	half := strings.Repeat(";", maxTokens/2)
	if n := len(tokensIn(t, half+"\n"+half)); n != maxTokens {
		t.Error(n)
	}
	refuse(t, half+"\n"+half+";", api.ErrLimit, maxTokens+1)
	long := strings.Repeat(" ", maxSource/2)
	tokensIn(t, long+"\n"+long[1:])
	refuse(t, long+"\n"+long, api.ErrLimit, 0)
}

// P6.6: the source up to the offset of an error has no error, and at the offset neither a gap nor a token begins.
func TestErrorOffsets(t *testing.T) {
	errors := 0
	for _, source := range mixedSources() {
		list, err, at := Lex(source)
		if err == api.OK {
			continue
		}
		errors++
		if err != api.ErrToken || len(list) > 0 || at < 0 || at >= len(source) {
			t.Fatalf("%q: %v, %v, %d", source, list, err, at)
		}
		before := tokensIn(t, source[:at])
		end := 0
		for _, token := range before {
			end = token.At + len(token.Text)
		}
		if !gapBetween.MatchString(source[end:at]) || leadingGap.FindString(source[at:]) != "" || tokenBy(source[at:]).Kind != 0 {
			t.Fatalf("%q: %d", source, at)
		}
		refuse(t, source[at:], api.ErrToken, 0)
	}
	if errors < 10000 {
		t.Error("only", errors, "sources have an error")
	}
	many := strings.Repeat("a ", maxTokens)
	for _, rest := range []string{"a", "$", "//\n  =", " //\n a "} {
		_, err, at := Lex(many + rest)
		if err != api.ErrLimit || len(tokensIn(t, (many + rest)[:at])) != maxTokens || leadingGap.FindString((many + rest)[at:]) != "" {
			t.Errorf("%q: %v, %d", rest, err, at)
		}
	}
}

// P6.7: words of lower-case and of upper-case letters of all lengths.
func TestWords(t *testing.T) {
	const lower, upper = "abcdefghijklmnopqrstuvwxyz", "ABCDEFGHIJKLMNOPQRSTUVWXYZ"
	for length := 1; length <= 60; length++ {
		for start := range 26 {
			word := strings.Repeat(lower, 4)[start : start+length]
			if length <= 16 {
				checkOne(t, word, api.TokenName)
			} else {
				refuse(t, word, api.ErrToken, 0)
				refuse(t, "a "+word+" b", api.ErrToken, 2)
			}
			word = strings.Repeat(upper, 4)[start : start+length]
			if length == 3 {
				checkOne(t, word, api.TokenCur)
			} else {
				refuse(t, word, api.ErrToken, 0)
				refuse(t, "a "+word+" b", api.ErrToken, 2)
			}
		}
	}
	for _, length := range []int{100, 1000, maxSource} {
		refuse(t, strings.Repeat("a", length), api.ErrToken, 0)
		refuse(t, strings.Repeat("A", length), api.ErrToken, 0)
		refuse(t, strings.Repeat("1", length), api.ErrToken, 0)
	}
}

// P1: a result shares no memory with that of another call.
func TestResultsAreNew(t *testing.T) {
	first := tokensIn(t, "a b c")
	for i := range first {
		first[i] = api.Token{Kind: -1, Text: "x", At: -1}
	}
	clear(first[:cap(first)])
	compare(t, "a b c")
	compare(t, "d e f")
}
