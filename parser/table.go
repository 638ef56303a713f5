package parser

import "wageoffice/api"

// row is a piece of a table as it is written: its slope is a fraction with a denominator of its own.
type row struct {
	from        int
	at          int
	numerator   int
	denominator int
}

// rows are the rows of a table up to one, and the least common multiple of their denominators.
type rows struct {
	list []row
	den  int
}

func (r *reader) table() api.Node {
	n := api.Node{Kind: api.NodeTable, At: r.take().At}
	r.expect("(")
	n.Kids = []api.Node{r.expr()}
	r.expect(";")
	written := rows{den: 1}
	r.list(func() { r.row(&written) })
	closing := r.expect(")")
	n.Table = written.function()
	for _, p := range n.Table.Pieces {
		require(within(p.Slope, -api.MaxRatio, api.MaxRatio), api.ErrLimit, closing)
	}
	return n
}

// row reads a row that follows others.
func (r *reader) row(before *rows) {
	from := r.from(before.list)
	r.expect(":")
	sign := 1
	if r.is("-") {
		sign = r.sign()
	}
	at := sign * r.value()
	sign = r.sign()
	numerator := sign * r.number(0, api.MaxRatio).N
	r.expect("/")
	token := r.next()
	denominator := r.number(1, api.MaxRatio).N
	before.den = leastMultiple(before.den, denominator)
	require(before.den <= api.MaxRatio, api.ErrLimit, token)
	before.list = append(before.list, row{from, at, numerator, denominator})
}

// from reads the first value of a row that follows others.
func (r *reader) from(before []row) int {
	token := r.next()
	from := r.value()
	if len(before) == 0 {
		require(from == 0, api.ErrRange, token)
	} else {
		require(from > before[len(before)-1].from, api.ErrRange, token)
	}
	require(len(before) < api.MaxPieces, api.ErrLimit, token)
	return from
}

// value reads a number of cents, or the number 0.
func (r *reader) value() int {
	if r.next().Kind == api.TokenNumber {
		return r.number(0, 0).N
	}
	return r.cents()
}

// sign takes a plus or a minus, and returns 1 or -1.
func (r *reader) sign() int {
	if r.is("-") {
		r.take()
		return -1
	}
	r.expect("+")
	return 1
}

// function returns the piecewise linear function that the rows describe. No number in it exceeds an int: an amount has 12 digits, and a numerator and the denominator have 7.
func (w rows) function() api.Func {
	f := api.Func{Den: w.den}
	for _, p := range w.list {
		f.Pieces = append(f.Pieces, api.Piece{From: p.from, At: p.at * w.den, Slope: p.numerator * (w.den / p.denominator)})
	}
	return f
}

func leastMultiple(a, b int) int { return a / greatestDivisor(a, b) * b }

func greatestDivisor(a, b int) int {
	for b != 0 {
		a, b = b, a%b
	}
	return a
}
