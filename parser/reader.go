package parser

import (
	"strconv"
	"strings"

	"wageoffice/api"
	"wageoffice/calendar"
)

const end = 0 // no kind of token has this number

// reader reads the tokens of a source. The last one, of the kind end, stands at the end of the source and is never taken.
type reader struct {
	tokens []api.Token
	taken  int
}

func (r *reader) next() api.Token { return r.tokens[r.taken] }

func (r *reader) ended() bool { return r.next().Kind == end }

// is reports whether the next token is a key word or a symbol: no token of another kind has the same text.
func (r *reader) is(text string) bool { return r.next().Text == text }

func (r *reader) take() api.Token {
	token := r.next()
	r.taken++
	return token
}

// expect takes a key word or a symbol.
func (r *reader) expect(text string) api.Token {
	if !r.is(text) {
		panic(r.unexpected())
	}
	return r.take()
}

func (r *reader) expectKind(kind int) api.Token {
	if r.next().Kind != kind {
		panic(r.unexpected())
	}
	return r.take()
}

// unexpected is the diagnostic of a next token that cannot continue what is read.
func (r *reader) unexpected() api.Diag {
	if r.ended() {
		return api.Diag{Err: api.ErrEnd, At: r.next().At}
	}
	return api.Diag{Err: api.ErrSyntax, At: r.next().At}
}

// require leaves what is read with an error at a token, unless a rule for its value holds.
func require(holds bool, err api.Errno, token api.Token) {
	if !holds {
		panic(api.Diag{Err: err, At: token.At})
	}
}

// list calls a function that reads an element of a list, as long as commas follow.
func (r *reader) list(read func()) {
	read()
	for r.is(",") {
		r.take()
		read()
	}
}

func (r *reader) name() string {
	if isKeyWord(r.next().Text) {
		panic(r.unexpected())
	}
	return r.expectKind(api.TokenName).Text
}

func (r *reader) unit() string {
	if !isUnit(r.next().Text) {
		panic(r.unexpected())
	}
	return r.take().Text
}

// number takes a number from a least to a greatest one.
func (r *reader) number(least, greatest int) api.Node {
	token := r.expectKind(api.TokenNumber)
	n := digits(token)
	require(within(n, least, greatest), api.ErrRange, token)
	return api.Node{Kind: api.NodeNumber, N: n, Unit: api.UnitNumber, At: token.At}
}

func (r *reader) articleNumber() api.Node { return r.number(1, api.MaxRatio) }

func (r *reader) cents() int { return digits(r.expectKind(api.TokenCents)) }

// digits returns the number that the digits of a token have without a point. They are too few to exceed an int.
func digits(token api.Token) int {
	n, _ := strconv.Atoi(strings.Replace(token.Text, ".", "", 1))
	return n
}

// date takes a date that is not earlier than a day.
func (r *reader) date(earliest int) int {
	token := r.expectKind(api.TokenDate)
	day, err := calendar.Parse(token.Text)
	require(err == api.OK && day >= earliest, api.ErrDate, token)
	return day
}
