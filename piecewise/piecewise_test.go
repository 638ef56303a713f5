package piecewise

import (
	"math"
	"math/big"
	"math/rand"
	"slices"
	"sort"
	"testing"

	"wageoffice/api"
)

const (
	most   = 1000000000000       // the last argument, and the greatest absolute value of a result of Round
	mostAt = 1000000000000000000 // the greatest absolute value of At
	ratio  = 1000000             // the greatest denominator, and the greatest absolute value of a slope
)

var modes = []int{api.Down, api.Near, api.Even}

// made returns a function whose pieces are given by three numbers each: From, At and Slope.
func made(den int, numbers ...int) api.Func {
	f := api.Func{Den: den}
	for i := 0; i+2 < len(numbers); i += 3 {
		f.Pieces = append(f.Pieces, api.Piece{From: numbers[i], At: numbers[i+1], Slope: numbers[i+2]})
	}
	return f
}

func same(f, g api.Func) bool { return f.Den == g.Den && slices.Equal(f.Pieces, g.Pieces) }

func isZero(f api.Func) bool { return f.Den == 0 && len(f.Pieces) == 0 }

// stairs returns a function with many pieces, each one a step later than the one before.
func stairs(count, step int) api.Func {
	f := api.Func{Den: 1}
	for i := range count {
		f.Pieces = append(f.Pieces, api.Piece{From: i * step, At: i})
	}
	return f
}

// validBy is the chapter's definition of a valid function.
func validBy(f api.Func) bool {
	in := func(n, low, high int) bool { return low <= n && n <= high }
	if !in(f.Den, 1, ratio) || !in(len(f.Pieces), 1, 64) {
		return false
	}
	for i, p := range f.Pieces {
		if i == 0 && p.From != 0 || i > 0 && p.From <= f.Pieces[i-1].From || p.From > most || !in(p.Slope, -ratio, ratio) || !in(p.At, -mostAt, mostAt) {
			return false
		}
	}
	return true
}

// pieceBy is the chapter's definition of the piece that belongs to an argument.
func pieceBy(f api.Func, x int) api.Piece {
	var last api.Piece
	for _, p := range f.Pieces {
		if p.From <= x {
			last = p
		}
	}
	return last
}

// exactBy is the chapter's definition of the numerator, computed with numbers of any size.
func exactBy(f api.Func, x int) *big.Int {
	p := pieceBy(f, x)
	n := big.NewInt(int64(x))
	n.Sub(n, big.NewInt(int64(p.From)))
	n.Mul(n, big.NewInt(int64(p.Slope)))
	return n.Add(n, big.NewInt(int64(p.At)))
}

// numeratorBy is the chapter's definition of the numerator. TestEval compares Eval with exactBy, too, so that an overflow would be found.
func numeratorBy(f api.Func, x int) int {
	p := pieceBy(f, x)
	return p.At + p.Slope*(x-p.From)
}

// startsBy are the common starts of two functions.
func startsBy(f, g api.Func) []int {
	var starts []int
	for _, p := range append(slices.Clone(f.Pieces), g.Pieces...) {
		if !slices.Contains(starts, p.From) {
			starts = append(starts, p.From)
		}
	}
	slices.Sort(starts)
	return starts
}

// judged returns a function with the errors that E4 and E5 define for given arguments and pieces.
func judged(f, g, result api.Func) (api.Func, api.Errno) {
	switch {
	case len(result.Pieces) > 64:
		return api.Func{}, api.ErrLimit
	case !validBy(result):
		return api.Func{}, api.ErrRange
	}
	return result, api.OK
}

// addBy is the chapter's definition of the sum.
func addBy(f, g api.Func) (api.Func, api.Errno) {
	result := api.Func{Den: f.Den}
	for _, s := range startsBy(f, g) {
		result.Pieces = append(result.Pieces, api.Piece{From: s, At: numeratorBy(f, s) + numeratorBy(g, s), Slope: pieceBy(f, s).Slope + pieceBy(g, s).Slope})
	}
	return judged(f, g, result)
}

// leastBy is the chapter's definition of the least function. Two lines cross at most once; so the first argument at which the other one is less is found by halving.
func leastBy(f, g api.Func) (api.Func, api.Errno) {
	result := api.Func{Den: f.Den}
	starts := startsBy(f, g)
	for i, s := range starts {
		end := most + 1
		if i+1 < len(starts) {
			end = starts[i+1]
		}
		one, other := f, g
		atF, atG := numeratorBy(f, s), numeratorBy(g, s)
		if atG < atF || atG == atF && pieceBy(g, s).Slope < pieceBy(f, s).Slope {
			one, other = g, f
		}
		result.Pieces = append(result.Pieces, api.Piece{From: s, At: min(atF, atG), Slope: pieceBy(one, s).Slope})
		x := s + 1 + sort.Search(end-s-1, func(k int) bool { return numeratorBy(other, s+1+k) < numeratorBy(one, s+1+k) })
		if x < end {
			result.Pieces = append(result.Pieces, api.Piece{From: x, At: numeratorBy(other, x), Slope: pieceBy(other, x).Slope})
		}
	}
	return judged(f, g, result)
}

// holdsBy is P5.4's condition: whether the value is from low to high at an argument.
func holdsBy(f api.Func, x, low, high int) bool {
	n := numeratorBy(f, x)
	return low*f.Den <= n && n <= high*f.Den
}

// whereBy returns the arguments at which the value is from low to high, in normal form. On a piece, the numerator does not turn; so the bounds are found by halving.
func whereBy(f api.Func, low, high int) []api.Span {
	var result []api.Span
	for i, p := range f.Pieces {
		end := most + 1
		if i+1 < len(f.Pieces) {
			end = f.Pieces[i+1].From
		}
		search := func(found func(n int) bool) int {
			return p.From + sort.Search(end-p.From, func(k int) bool { return found(numeratorBy(f, p.From+k)) })
		}
		from := search(func(n int) bool { return p.Slope >= 0 && n >= low*f.Den || p.Slope < 0 && n <= high*f.Den })
		to := search(func(n int) bool { return p.Slope >= 0 && n > high*f.Den || p.Slope < 0 && n < low*f.Den })
		switch {
		case from >= to:
		case len(result) > 0 && result[len(result)-1].To == from:
			result[len(result)-1].To = to
		default:
			result = append(result, api.Span{From: from, To: to})
		}
	}
	return result
}

// smallFunctions are all functions of one denominator with a first piece, and up to one more from 1 or 3 on, and small numbers.
func smallFunctions(den int) []api.Func {
	var list []api.Func
	for at := -1; at <= 3; at++ {
		for slope := -2; slope <= 1; slope++ {
			list = append(list, made(den, 0, at, slope))
			for _, from := range []int{1, 3} {
				for other := -1; other <= 2; other++ {
					for steep := -1; steep <= 2; steep += 3 {
						list = append(list, made(den, 0, at, slope, from, other, steep))
					}
				}
			}
		}
	}
	return list
}

// extremeFunctions have numbers at the bounds of valid ones.
func extremeFunctions(den int) []api.Func {
	var list []api.Func
	for _, at := range []int{-mostAt, -mostAt + 1, -5, 0, 7, mostAt - 1, mostAt} {
		for _, slope := range []int{-ratio, -ratio + 1, -1, 0, 1, ratio - 1, ratio} {
			list = append(list, made(den, 0, at, slope), made(den, 0, at, slope, most, -at, slope), made(den, 0, at, slope, 1, at, -slope, most-1, 3, slope))
		}
	}
	return list
}

// randomFunction returns a function with up to a number of pieces, whose numbers are below the given widths.
func randomFunction(random *rand.Rand, den, count, from, at, slope int) api.Func {
	f := api.Func{Den: den}
	start := 0
	for range 1 + random.Intn(count) {
		if start > most {
			break
		}
		f.Pieces = append(f.Pieces, api.Piece{From: start, At: random.Intn(2*at+1) - at, Slope: random.Intn(2*slope+1) - slope})
		start += 1 + random.Intn(from)
	}
	return f
}

// randomFunctions returns functions of one denominator: flat and steep ones, with few and with many pieces, near to 0 and all over the arguments.
func randomFunctions(random *rand.Rand, den, count int) []api.Func {
	var list []api.Func
	for range count {
		list = append(list,
			randomFunction(random, den, 4, 8, 12, 3),
			randomFunction(random, den, 20, 100, 5000, 60),
			randomFunction(random, den, 64, 30000000000, mostAt, ratio),
			randomFunction(random, den, 64, 5, mostAt/2, ratio/2),
			randomFunction(random, den, 6, 400000000000, 1000*den, min(2*den, ratio)),
		)
	}
	return list
}

// samples are functions of all kinds with different denominators.
func samples() []api.Func {
	random := rand.New(rand.NewSource(1))
	list := []api.Func{made(2, 0, 0, 1, 10, 10, 4), made(2, 0, 12, 0), made(4, 0, -8, 1), made(10, 0, 0, 0, 1000, 0, 2), stairs(64, 1), stairs(64, 17)}
	for _, den := range []int{1, 2, 3, 7, 10, 100, 999999, ratio} {
		list = append(list, randomFunctions(random, den, 6)...)
		list = append(list, extremeFunctions(den)...)
	}
	for _, den := range []int{1, 2, 3} {
		list = append(list, smallFunctions(den)...)
	}
	return list
}

// pairs are pairs of functions with one denominator: all pairs of extreme ones, and many others.
func pairs() [][2]api.Func {
	random := rand.New(rand.NewSource(2))
	var list [][2]api.Func
	for _, den := range []int{1, 100, ratio} {
		functions := append(randomFunctions(random, den, 20), extremeFunctions(den)...)
		for i, f := range functions {
			for j := range 60 {
				list = append(list, [2]api.Func{f, functions[(61*i+7*j)%len(functions)]})
			}
		}
	}
	small := smallFunctions(2)
	for i, f := range small {
		for j := range 40 {
			list = append(list, [2]api.Func{f, small[(29*i+11*j)%len(small)]})
		}
	}
	return list
}

// arguments are those around the starts of the pieces of some functions, the first and the last ones, and some from a seed.
func arguments(random *rand.Rand, functions ...api.Func) []int {
	all := []int{0, 1, 2, 3, 4, 5, 6, 7, most - 2, most - 1, most}
	for _, f := range functions {
		for _, p := range f.Pieces {
			all = append(all, p.From-1, p.From, p.From+1)
		}
	}
	for range 6 {
		all = append(all, random.Intn(most+1), random.Intn(200))
	}
	slices.Sort(all)
	return slices.DeleteFunc(slices.Compact(all), func(x int) bool { return x < 0 || x > most })
}

// at returns the numerator that Eval returns.
func at(t *testing.T, f api.Func, x int) int {
	t.Helper()
	n, den, err := Eval(f, x)
	if den != f.Den || err != api.OK {
		t.Fatal(f, x, n, den, err)
	}
	return n
}

// checkWhere compares Where with the definition, and the definition with its condition around the bounds.
func checkWhere(t *testing.T, random *rand.Rand, f api.Func, low, high int) {
	t.Helper()
	got, err := Where(f, low, high)
	if !slices.Equal(got, whereBy(f, low, high)) || err != api.OK {
		t.Fatal(f, low, high, got, err, whereBy(f, low, high))
	}
	probes := arguments(random, f)
	for i, s := range got {
		if s.From < 0 || s.From >= s.To || s.To > most+1 || i > 0 && got[i-1].To >= s.From {
			t.Fatal(f, low, high, "not in normal form:", got)
		}
		probes = append(probes, s.From-1, s.From, s.To-1, s.To)
	}
	for _, x := range probes {
		if x < 0 || x > most {
			continue
		}
		in := slices.ContainsFunc(got, func(s api.Span) bool { return s.From <= x && x < s.To })
		if in != holdsBy(f, x, low, high) {
			t.Fatal(f, low, high, got, "wrong at", x)
		}
	}
}

// P5.1: the chapter's examples.
func TestExamples(t *testing.T) {
	f, g := made(2, 0, 0, 1, 10, 10, 4), made(2, 0, 12, 0)
	if at(t, f, 3) != 3 || at(t, f, 11) != 14 {
		t.Error(at(t, f, 3), at(t, f, 11))
	}
	if _, _, err := Eval(f, -1); err != api.ErrArg {
		t.Error(err)
	}
	for _, x := range [][3]int{{3, api.Down, 1}, {3, api.Near, 2}, {3, api.Even, 2}, {1, api.Even, 0}} {
		if n, err := Round(f, x[0], x[1]); n != x[2] || err != api.OK {
			t.Error(x, n, err)
		}
	}
	if sum, err := Add(f, g); !same(sum, made(2, 0, 12, 1, 10, 22, 4)) || err != api.OK {
		t.Error(sum, err)
	}
	if least, err := Least(f, g); !same(least, made(2, 0, 0, 1, 10, 10, 4, 11, 12, 0)) || err != api.OK {
		t.Error(least, err)
	}
	if list, err := Where(f, 2, 5); !slices.Equal(list, []api.Span{{From: 4, To: 11}}) || err != api.OK {
		t.Error(list, err)
	}
}

// validFunctions are at the bounds of all conditions.
func validFunctions() []api.Func {
	return []api.Func{
		made(1, 0, 0, 0), made(ratio, 0, 0, 0), made(3, 0, mostAt, ratio), made(3, 0, -mostAt, -ratio), made(1, 0, 0, 0, 1, 0, 0), made(1, 0, 0, 0, most, mostAt, ratio),
		made(1, 0, 5, 1, most-1, -mostAt, -ratio, most, 0, 0), stairs(64, 1), stairs(64, most/63), stairs(2, most),
	}
}

// invalidFunctions break one condition each, at its bound or far from it.
func invalidFunctions() []api.Func {
	list := []api.Func{
		{}, {Den: 1}, {Den: 1, Pieces: []api.Piece{}}, made(0, 0, 0, 0), made(-1, 0, 0, 0), made(ratio+1, 0, 0, 0), made(math.MinInt, 0, 0, 0), made(math.MaxInt, 0, 0, 0),
		made(1, 1, 0, 0), made(1, -1, 0, 0), made(1, -1, 0, 0, 0, 0, 0), made(1, math.MinInt, 0, 0), made(1, math.MaxInt, 0, 0),
		made(1, 0, 0, 0, 0, 0, 0), made(1, 0, 0, 0, -1, 0, 0), made(1, 0, 0, 0, 5, 0, 0, 5, 1, 0), made(1, 0, 0, 0, 5, 0, 0, 4, 0, 0), made(1, 0, 0, 0, 5, 0, 0, math.MinInt, 0, 0), made(1, 0, 0, 0, most+1, 0, 0), made(1, 0, 0, 0, math.MaxInt, 0, 0), made(1, 0, 0, 0, most+1, 0, 0, most, 0, 0),
		stairs(65, 1), stairs(1000, 1), stairs(65, most/63),
	}
	for _, n := range []int{ratio + 1, -ratio - 1, math.MaxInt, math.MinInt} {
		list = append(list, made(1, 0, 0, n), made(1, 0, 0, 0, 5, 0, n))
	}
	for _, n := range []int{mostAt + 1, -mostAt - 1, math.MaxInt, math.MinInt} {
		list = append(list, made(1, 0, n, 0), made(1, 0, 0, 0, 5, n, 0, 6, 0, 0))
	}
	return list
}

// P5.1, E1: each condition of a valid function, at both sides of its bound.
func TestValid(t *testing.T) {
	for _, f := range validFunctions() {
		if !Valid(f) || !validBy(f) {
			t.Error("not valid:", f)
		}
	}
	for _, f := range invalidFunctions() {
		if Valid(f) || validBy(f) {
			t.Error("valid:", f)
		}
	}
	for _, f := range samples() {
		if !Valid(f) {
			t.Error("not valid:", f)
		}
	}
}

// P5.1 and P1: every function with functions that are not valid. The result is zero, and no other error is named first.
func TestInvalidFunctions(t *testing.T) {
	good := made(5, 0, 0, 1)
	for _, bad := range invalidFunctions() {
		for _, x := range []int{0, -1, most, math.MinInt, math.MaxInt} {
			if n, den, err := Eval(bad, x); n != 0 || den != 0 || err != api.ErrArg {
				t.Error(bad, x, n, den, err)
			}
			for _, mode := range append(modes, -1) {
				if n, err := Round(bad, x, mode); n != 0 || err != api.ErrArg {
					t.Error(bad, x, mode, n, err)
				}
			}
			if list, err := Where(bad, x, 1); len(list) > 0 || err != api.ErrArg {
				t.Error(bad, x, list, err)
			}
		}
		for _, pair := range [][2]api.Func{{bad, good}, {good, bad}, {bad, bad}} {
			if sum, err := Add(pair[0], pair[1]); !isZero(sum) || err != api.ErrArg {
				t.Error(pair, sum, err)
			}
			if least, err := Least(pair[0], pair[1]); !isZero(least) || err != api.ErrArg {
				t.Error(pair, least, err)
			}
		}
	}
}

// P5.1, E2: the numerators around all starts and at the bounds of the arguments.
func TestEval(t *testing.T) {
	random := rand.New(rand.NewSource(3))
	for _, f := range append(samples(), validFunctions()...) {
		for _, x := range arguments(random, f) {
			if n := at(t, f, x); n != numeratorBy(f, x) || big.NewInt(int64(n)).Cmp(exactBy(f, x)) != 0 {
				t.Fatal(f, x, n)
			}
		}
	}
	if n := at(t, made(1, 0, mostAt, ratio), most); n != 2*mostAt {
		t.Error(n)
	}
	if n := at(t, made(1, 0, -mostAt, -ratio), most); n != -2*mostAt {
		t.Error(n)
	}
}

// P5.1 and P1, E2, E3 and E6: numbers that are no arguments, no modes, or out of range.
func TestErrors(t *testing.T) {
	f := made(2, 0, 0, 1, 10, 10, 4)
	for _, x := range []int{-1, most + 1, math.MinInt, math.MaxInt} {
		if n, den, err := Eval(f, x); n != 0 || den != 0 || err != api.ErrArg {
			t.Error(x, n, den, err)
		}
		for _, mode := range append(modes, 3) {
			if n, err := Round(f, x, mode); n != 0 || err != api.ErrArg {
				t.Error(x, mode, n, err)
			}
		}
	}
	for _, mode := range []int{-1, 3, math.MinInt, math.MaxInt} {
		for _, g := range []api.Func{f, made(1, 0, mostAt, 0)} {
			if n, err := Round(g, 0, mode); n != 0 || err != api.ErrArg {
				t.Error(g, mode, n, err)
			}
		}
	}
	for _, n := range []int{-most - 1, most + 1, math.MinInt, math.MaxInt} {
		for _, x := range [][2]int{{n, 0}, {0, n}, {n, n}, {n, -n}, {most, n}, {n, -most}} {
			if list, err := Where(f, x[0], x[1]); len(list) > 0 || err != api.ErrRange {
				t.Error(x, list, err)
			}
		}
	}
	for _, x := range [][2]int{{-most, most}, {most, -most}, {most, most}, {-most, -most}} {
		if _, err := Where(f, x[0], x[1]); err != api.OK {
			t.Error(x, err)
		}
	}
}

// roundedBy is the chapter's definition of the modes: among the integers around the value, the one that the mode chooses.
func roundedBy(num, den, mode int) int {
	value := big.NewRat(int64(num), int64(den))
	n := num / den
	for big.NewRat(int64(n), 1).Cmp(value) > 0 {
		n--
	}
	below := new(big.Rat).Sub(value, big.NewRat(int64(n), 1))
	half := below.Cmp(big.NewRat(1, 2))
	if mode == api.Down || half < 0 {
		return n
	}
	if half > 0 {
		return n + 1
	}
	if mode == api.Near && num > 0 || mode == api.Even && n%2 != 0 {
		return n + 1
	}
	return n
}

// checkRound compares the rounded value of a function with the definition.
func checkRound(t *testing.T, f api.Func, x, mode int) {
	t.Helper()
	want, wantErr := roundedBy(numeratorBy(f, x), f.Den, mode), api.OK
	if want > most || want < -most {
		want, wantErr = 0, api.ErrRange
	}
	if n, err := Round(f, x, mode); n != want || err != wantErr {
		t.Fatal(f, x, mode, n, err, want, wantErr)
	}
}

// P5.1, E3: the rounded values of all modes, above and below zero and in the middle between integers, and for functions of all kinds.
func TestRound(t *testing.T) {
	random := rand.New(rand.NewSource(4))
	for _, f := range samples() {
		for _, x := range arguments(random, f) {
			for _, mode := range modes {
				checkRound(t, f, x, mode)
			}
		}
	}
	for den := 1; den <= 12; den++ {
		for num := -60; num <= 60; num++ {
			for _, mode := range modes {
				checkRound(t, made(den, 0, num, 0), 0, mode)
			}
		}
	}
	for _, x := range [][5]int{{7, 2, 3, 4, 4}, {5, 2, 2, 3, 2}, {1, 2, 0, 1, 0}, {-1, 2, -1, -1, 0}, {-3, 2, -2, -2, -2}, {-5, 2, -3, -3, -2}, {-5, 4, -2, -1, -1}, {-7, 4, -2, -2, -2}, {-6, 3, -2, -2, -2}, {0, 3, 0, 0, 0}} {
		for i, mode := range modes {
			if n, err := Round(made(x[1], 0, x[0], 0), 5, mode); n != x[2+i] || err != api.OK {
				t.Error(x, mode, n, err)
			}
		}
	}
}

// P5.1, E3: at the bound, the rounding decides whether the result is out of range.
func TestRoundRange(t *testing.T) {
	for _, den := range []int{1, 2, 3, 4, 1000, 999999} {
		for _, edge := range []int{most * den, -most * den} {
			for near := -2 * den; near <= 2*den; near += 1 + den/200 {
				for _, mode := range modes {
					checkRound(t, made(den, 0, edge+near, 0), 9, mode)
				}
			}
		}
	}
	for _, x := range []struct {
		f    api.Func
		mode int
		want int
		err  api.Errno
	}{
		{made(2, 0, 2*most+1, 0), api.Down, most, api.OK}, {made(2, 0, 2*most+1, 0), api.Near, 0, api.ErrRange}, {made(2, 0, 2*most+1, 0), api.Even, most, api.OK},
		{made(2, 0, -2*most-1, 0), api.Down, 0, api.ErrRange}, {made(2, 0, -2*most-1, 0), api.Near, 0, api.ErrRange}, {made(2, 0, -2*most-1, 0), api.Even, -most, api.OK},
		{made(1, 0, most, 0), api.Down, most, api.OK}, {made(1, 0, -most, 0), api.Down, -most, api.OK}, {made(1, 0, most+1, 0), api.Even, 0, api.ErrRange},
		{made(ratio, 0, mostAt, 0), api.Near, most, api.OK}, {made(ratio, 0, -mostAt, 0), api.Near, -most, api.OK}, {made(ratio-1, 0, mostAt, 0), api.Near, 0, api.ErrRange},
	} {
		if n, err := Round(x.f, 0, x.mode); n != x.want || err != x.err {
			t.Error(x, n, err)
		}
	}
	for _, sign := range []int{1, -1} {
		for _, mode := range modes {
			if n, err := Round(made(1, 0, sign*mostAt, sign*ratio), most, mode); n != 0 || err != api.ErrRange {
				t.Error(sign, mode, n, err)
			}
			if n, err := Round(made(ratio, 0, 0, sign*ratio), most, mode); n != sign*most || err != api.OK {
				t.Error(sign, mode, n, err)
			}
		}
	}
}

// P5.5: Down is at most the value, and less than 1 below it; Near and Even are at most 1/2 away from it, and differ only in the middle between two integers.
func TestRounding(t *testing.T) {
	random := rand.New(rand.NewSource(5))
	halves := 0
	for _, f := range samples() {
		for _, x := range arguments(random, f) {
			num := numeratorBy(f, x)
			down, err := Round(f, x, api.Down)
			near, nearErr := Round(f, x, api.Near)
			even, evenErr := Round(f, x, api.Even)
			if err != api.OK || nearErr != api.OK || evenErr != api.OK {
				continue
			}
			if down*f.Den > num || (down+1)*f.Den <= num {
				t.Fatal(f, x, down)
			}
			for _, n := range []int{near, even} {
				if apart := 2 * (n*f.Den - num); apart < -f.Den || apart > f.Den {
					t.Fatal(f, x, n)
				}
			}
			middle := 2*(num-down*f.Den) == f.Den
			if !middle && near != even || middle && even%2 != 0 || middle && (near < 0) != (num < 0) {
				t.Fatal(f, x, near, even)
			}
			if middle && near != even {
				halves++
			}
		}
	}
	if halves == 0 {
		t.Error("no value lies in the middle between two integers")
	}
}

// P5.6: the numerator grows by the slope of the piece that belongs to an argument, up to the next piece, at whose start it is its At.
func TestSlopes(t *testing.T) {
	random := rand.New(rand.NewSource(6))
	for _, f := range samples() {
		starts := map[int]bool{}
		for _, p := range f.Pieces {
			starts[p.From] = true
			if n := at(t, f, p.From); n != p.At {
				t.Fatal(f, p, n)
			}
		}
		for _, x := range arguments(random, f) {
			if x < most && !starts[x+1] && at(t, f, x+1)-at(t, f, x) != pieceBy(f, x).Slope {
				t.Fatal(f, x, at(t, f, x), at(t, f, x+1))
			}
		}
	}
}

// P5.1, E4 and E5: sums and least functions, piece by piece, and their errors.
func TestAddAndLeast(t *testing.T) {
	counts := map[api.Errno]int{}
	for _, x := range pairs() {
		f, g := x[0], x[1]
		sum, err := Add(f, g)
		if want, wantErr := addBy(f, g); !same(sum, want) || err != wantErr {
			t.Fatal(f, g, sum, err, want, wantErr)
		}
		least, leastErr := Least(f, g)
		if want, wantErr := leastBy(f, g); !same(least, want) || leastErr != wantErr {
			t.Fatal(f, g, least, leastErr, want, wantErr)
		}
		counts[err]++
		counts[leastErr]++
	}
	if counts[api.OK] == 0 || counts[api.ErrLimit] == 0 || counts[api.ErrRange] == 0 {
		t.Error("the pairs do not have all results:", counts)
	}
}

// P5.2 and P5.3: at all arguments around the starts, the sum has the sum of the numerators, and the least function the lesser one.
func TestNumerators(t *testing.T) {
	random := rand.New(rand.NewSource(7))
	for _, pair := range pairs() {
		f, g := pair[0], pair[1]
		sum, err := Add(f, g)
		least, leastErr := Least(f, g)
		for _, x := range arguments(random, f, g, least) {
			nF, nG := numeratorBy(f, x), numeratorBy(g, x)
			if err == api.OK && at(t, sum, x) != nF+nG {
				t.Fatal(f, g, sum, x)
			}
			if leastErr == api.OK && at(t, least, x) != min(nF, nG) {
				t.Fatal(f, g, least, x)
			}
		}
	}
}

// P5.2 and P5.3: all pairs of small functions, at all arguments up to the last place at which they can cross.
func TestSmallPairs(t *testing.T) {
	var list []api.Func
	for i, f := range smallFunctions(3) {
		if i%2 == 0 {
			list = append(list, f)
		}
	}
	for _, f := range list {
		for _, g := range list {
			sum, err := Add(f, g)
			least, leastErr := Least(f, g)
			if err != api.OK || leastErr != api.OK {
				t.Fatal(f, g, err, leastErr)
			}
			// Numerators are from -5 to 6 at the common starts, the last of which is 3; so there is no crossing after 15.
			for x := range 17 {
				nF, nG := numeratorBy(f, x), numeratorBy(g, x)
				if numeratorBy(sum, x) != nF+nG || numeratorBy(least, x) != min(nF, nG) {
					t.Fatal(f, g, x, sum, least)
				}
			}
		}
	}
}

// P5.2 and P5.3: both are commutative, a sum is associative where no error occurs, and the least one of a function and itself has its values.
func TestLaws(t *testing.T) {
	random := rand.New(rand.NewSource(8))
	third := map[int][]api.Func{}
	for _, x := range pairs() {
		third[x[0].Den] = append(third[x[0].Den], x[0])
	}
	associated := 0
	for _, x := range pairs() {
		f, g := x[0], x[1]
		sum, err := Add(f, g)
		if other, otherErr := Add(g, f); !same(sum, other) || err != otherErr {
			t.Fatal(f, g, sum, err, other, otherErr)
		}
		least, leastErr := Least(f, g)
		if other, otherErr := Least(g, f); !same(least, other) || leastErr != otherErr {
			t.Fatal(f, g, least, leastErr, other, otherErr)
		}
		h := third[f.Den][random.Intn(len(third[f.Den]))]
		left, leftErr := Add(sum, h)
		rest, restErr := Add(g, h)
		right, rightErr := Add(f, rest)
		if err == api.OK && leftErr == api.OK && restErr == api.OK && rightErr == api.OK {
			associated++
			if !same(left, right) {
				t.Fatal(f, g, h, left, right)
			}
		}
	}
	if associated == 0 {
		t.Error("no sum of three functions")
	}
	for _, f := range samples() {
		if least, err := Least(f, f); !same(least, f) || err != api.OK {
			t.Fatal(f, least, err)
		}
	}
}

// P5.1, E5: which function is the lesser one at a start, and where the other one becomes less.
func TestLeast(t *testing.T) {
	for _, x := range [][3]api.Func{
		{made(1, 0, 0, 1), made(1, 0, 5, 0), made(1, 0, 0, 1, 6, 5, 0)},
		{made(1, 0, 0, 2), made(1, 0, 5, 0), made(1, 0, 0, 2, 3, 5, 0)},
		{made(1, 0, 0, 2), made(1, 0, 4, 0), made(1, 0, 0, 2, 3, 4, 0)},
		{made(1, 0, 4, 0), made(1, 0, 4, -1), made(1, 0, 4, -1)},
		{made(1, 0, 4, 0), made(1, 0, 5, -1), made(1, 0, 4, 0, 2, 3, -1)},
		{made(1, 0, 4, 0), made(1, 0, 5, -2), made(1, 0, 4, 0, 1, 3, -2)},
		{made(1, 0, 4, 0), made(1, 0, 4, 0), made(1, 0, 4, 0)},
		{made(1, 0, 4, 3), made(1, 0, 5, 3), made(1, 0, 4, 3)},
		{made(1, 0, 0, 1, 6, 0, 1), made(1, 0, 5, 0), made(1, 0, 0, 1, 6, 0, 1, 12, 5, 0)},
		{made(1, 0, 0, 1, 7, 0, 1), made(1, 0, 5, 0), made(1, 0, 0, 1, 6, 5, 0, 7, 0, 1, 13, 5, 0)},
		{made(1, 0, 0, 1, 6, 6, 1), made(1, 0, 5, 0), made(1, 0, 0, 1, 6, 5, 0)},
		{made(1, 0, 0, 1, 5, 5, 1), made(1, 0, 5, 0), made(1, 0, 0, 1, 5, 5, 0)},
		{made(1, 0, 0, 1, 4, 4, 1), made(1, 0, 5, 0), made(1, 0, 0, 1, 4, 4, 1, 6, 5, 0)},
		{made(1, 0, 1, 0, 3, 1, 0), made(1, 0, 2, 0, 4, 0, 0), made(1, 0, 1, 0, 3, 1, 0, 4, 0, 0)},
		{made(1, 0, 0, 1), made(1, 0, most, 0), made(1, 0, 0, 1)},
		{made(1, 0, 0, 1), made(1, 0, most-1, 0), made(1, 0, 0, 1, most, most-1, 0)},
		{made(1, 0, 0, 1, most, 0, 0), made(1, 0, most-1, 0), made(1, 0, 0, 1, most, 0, 0)},
		{made(1, 0, 0, 1, most, 9, 1), made(1, 0, 9, -1), made(1, 0, 0, 1, 5, 4, -1, most, 9-most, -1)},
		{made(1, 0, -mostAt, ratio), made(1, 0, 0, 0), made(1, 0, -mostAt, ratio)},
		{made(1, 0, -mostAt+1, ratio), made(1, 0, 0, 0), made(1, 0, -mostAt+1, ratio, most, 0, 0)},
		{made(1, 0, -mostAt, ratio), made(1, 0, mostAt-ratio, -ratio), made(1, 0, -mostAt, ratio, most, -ratio, -ratio)},
	} {
		for _, pair := range [][2]api.Func{{x[0], x[1]}, {x[1], x[0]}} {
			if least, err := Least(pair[0], pair[1]); !same(least, x[2]) || err != api.OK {
				t.Error(pair, least, err, "instead of", x[2])
			}
		}
	}
}

// checkPairError reports an error unless both functions of two functions return the given errors, in both orders, and nothing else.
func checkPairError(t *testing.T, f, g api.Func, addErr, leastErr api.Errno) {
	t.Helper()
	for _, pair := range [][2]api.Func{{f, g}, {g, f}} {
		if sum, err := Add(pair[0], pair[1]); err != addErr || err != api.OK && !isZero(sum) {
			t.Error(pair, sum, err)
		}
		if least, err := Least(pair[0], pair[1]); err != leastErr || err != api.OK && !isZero(least) {
			t.Error(pair, least, err)
		}
	}
}

// P5.1 and P1, E4 and E5: the errors of two functions, at their bounds and in their order.
func TestPairErrors(t *testing.T) {
	low := stairs(64, 3) // At is up to 63, and the Slope 0
	checkPairError(t, made(2, 0, 0, 0), made(3, 0, 0, 0), api.ErrUnit, api.ErrUnit)
	checkPairError(t, made(0, 0, 0, 0), made(3, 0, 0, 0), api.ErrArg, api.ErrArg)
	checkPairError(t, made(2, 0, mostAt, ratio), made(3, 0, mostAt, ratio), api.ErrUnit, api.ErrUnit)
	checkPairError(t, low, made(3, 0, 0, 0, 1, 0, 0), api.ErrUnit, api.ErrUnit)

	checkPairError(t, low, made(1, 0, 1000, 0, 3*63, 1000, 0), api.OK, api.OK)
	checkPairError(t, low, made(1, 0, 1000, 0, 1, 1000, 0), api.ErrLimit, api.ErrLimit)
	checkPairError(t, low, made(1, 0, 1000, 0, most, 1000, 0), api.ErrLimit, api.ErrLimit)
	checkPairError(t, low, made(1, 0, 1000, -1), api.OK, api.ErrLimit) // it crosses after the last start
	checkPairError(t, stairs(63, 3), made(1, 0, 1000, -1), api.OK, api.OK)
	checkPairError(t, stairs(63, 3), made(1, 0, 30, -1), api.OK, api.OK)        // at 23 it is 7, as the piece from 21 on is
	checkPairError(t, stairs(39, 3), stairs(38, 2), api.OK, api.OK)             // with 64 starts
	checkPairError(t, stairs(39, 3), stairs(39, 2), api.ErrLimit, api.ErrLimit) // with 65 starts
	checkPairError(t, low, made(1, 0, mostAt, 0, 1, mostAt, ratio), api.ErrLimit, api.ErrLimit)

	checkPairError(t, made(1, 0, mostAt, 0), made(1, 0, 0, 0), api.OK, api.OK)
	checkPairError(t, made(1, 0, mostAt, 0), made(1, 0, 1, 0), api.ErrRange, api.OK)
	checkPairError(t, made(1, 0, -mostAt, 0), made(1, 0, -1, 0), api.ErrRange, api.OK)
	checkPairError(t, made(1, 0, mostAt, ratio), made(1, 0, -mostAt, -ratio), api.OK, api.OK)
	checkPairError(t, made(1, 0, 0, ratio), made(1, 0, 0, 1), api.ErrRange, api.OK)
	checkPairError(t, made(1, 0, 0, -ratio), made(1, 0, 0, -1), api.ErrRange, api.OK)
	checkPairError(t, made(1, 0, 0, 0, 5, mostAt, 0), made(1, 0, 0, 1), api.ErrRange, api.OK)
	checkPairError(t, made(1, 0, -mostAt, -1), made(1, 0, 0, 0, 1, 0, 0), api.ErrRange, api.ErrRange) // less than -mostAt at the second start
	checkPairError(t, made(1, 0, mostAt, 1), made(1, 0, mostAt-4, 3), api.ErrRange, api.ErrRange)     // mostAt + 3 where they cross
	checkPairError(t, made(1, 0, mostAt-3, 1), made(1, 0, mostAt-9, 3), api.ErrRange, api.ErrRange)   // mostAt + 1 where they cross
	checkPairError(t, made(1, 0, mostAt-4, 1), made(1, 0, mostAt-10, 3), api.ErrRange, api.OK)        // mostAt where they cross
}

// P5.1, E6 and P5.4: the arguments of functions of all kinds between numbers around their values, exactly.
func TestWhere(t *testing.T) {
	random := rand.New(rand.NewSource(9))
	for i, f := range samples() {
		limits := []int{-most, 0, most, random.Intn(7) - 3}
		for _, p := range f.Pieces[:min(3, len(f.Pieces))] {
			value := p.At / f.Den
			limits = append(limits, value-1, value, value+1, value+random.Intn(30)-15)
		}
		x := random.Intn(most + 1)
		limits = append(limits, numeratorBy(f, x)/f.Den)
		limits = slices.DeleteFunc(limits, func(n int) bool { return n < -most || n > most })
		for _, low := range limits {
			for _, high := range limits {
				if i%3 == 0 || random.Intn(4) == 0 {
					checkWhere(t, random, f, low, high)
				}
			}
		}
	}
}

// P5.4: functions whose spans touch, or are one argument long, and functions that are nowhere or everywhere between the numbers.
func TestWhereSpans(t *testing.T) {
	for _, x := range []struct {
		f         api.Func
		low, high int
		want      []api.Span
	}{
		{made(1, 0, 7, 0), 7, 7, []api.Span{{From: 0, To: most + 1}}},
		{made(1, 0, 7, 0), 8, 9, nil},
		{made(1, 0, 7, 0), 8, 6, nil},
		{made(1, 0, 0, 1), 6, 5, nil},
		{made(1, 0, 0, -1), 5, -5, nil},
		{made(1, 0, 0, 1), most, most, []api.Span{{From: most, To: most + 1}}},
		{made(1, 0, 0, -1), -most, -most, []api.Span{{From: most, To: most + 1}}},
		{made(1, 0, 10, -3), 1, 7, []api.Span{{From: 1, To: 4}}},
		{made(2, 0, 0, 3), 1, 2, []api.Span{{From: 1, To: 2}}},
		{made(3, 0, 1, 3), 1, 100, []api.Span{{From: 1, To: 100}}},
		{made(3, 0, 1, 6), 2, 2, nil},
		{made(3, 0, -1, -3), -2, -1, []api.Span{{From: 1, To: 2}}},
		{made(1, 0, 0, 1, 5, 5, 1), 1, 9, []api.Span{{From: 1, To: 10}}},
		{made(1, 0, 3, 0, 4, 3, 0, 9, 3, 0), 3, 3, []api.Span{{From: 0, To: most + 1}}},
		{made(1, 0, 0, 1, 5, 0, 1), 1, 3, []api.Span{{From: 1, To: 4}, {From: 6, To: 9}}},
		{made(1, 0, 3, 0, 4, 2, 0, 5, 3, 0, most, 4, 0), 3, 3, []api.Span{{From: 0, To: 4}, {From: 5, To: most}}},
		{made(1, 0, 4, 0, most, 3, 5), 3, 3, []api.Span{{From: most, To: most + 1}}},
		{made(ratio, 0, -mostAt, ratio), -1, 0, []api.Span{{From: most - 1, To: most + 1}}},
		{made(ratio, 0, mostAt, -ratio), most - 1, most, []api.Span{{From: 0, To: 2}}},
		{made(ratio, 0, mostAt, ratio), -most, most, []api.Span{{From: 0, To: 1}}},
		{made(1, 0, mostAt, ratio), -most, most, nil},
	} {
		if list, err := Where(x.f, x.low, x.high); !slices.Equal(list, x.want) || err != api.OK {
			t.Error(x, list, err)
		}
	}
	if list, err := Where(stairs(64, 2), 0, 40); !slices.Equal(list, []api.Span{{From: 0, To: 82}}) || err != api.OK {
		t.Error(list, err)
	}
	teeth := stairs(64, 2)
	for i := range teeth.Pieces {
		teeth.Pieces[i].At = i % 2
	}
	if list, err := Where(teeth, 1, 1); len(list) != 32 || list[31] != (api.Span{From: 126, To: most + 1}) || err != api.OK {
		t.Error(list, err)
	}
}

// P5.4: all small functions, at every argument from 0 on, between all small numbers.
func TestWhereSmall(t *testing.T) {
	for _, f := range smallFunctions(2) {
		for low := -4; low <= 4; low++ {
			for high := -4; high <= 4; high++ {
				list, err := Where(f, low, high)
				if err != api.OK {
					t.Fatal(f, low, high, err)
				}
				for x := range 14 {
					in := slices.ContainsFunc(list, func(s api.Span) bool { return s.From <= x && x < s.To })
					if in != holdsBy(f, x, low, high) {
						t.Fatal(f, low, high, list, x)
					}
				}
			}
		}
	}
}

// P5.1: the stretches that are ranged over follow one another from 0 to the last argument, begin at each start, and can be left at any time.
func TestStretches(t *testing.T) {
	for _, x := range pairs()[:3000] {
		starts := startsBy(x[0], x[1])
		var list []api.Span
		for part := range stretches(slices.Concat(x[0].Pieces, x[1].Pieces)) {
			list = append(list, part)
		}
		for i, part := range list {
			end := most + 1
			if i+1 < len(list) {
				end = list[i+1].From
			}
			if len(list) != len(starts) || part.From != starts[i] || part.To != end {
				t.Fatal(x, list, starts)
			}
		}
		for leave := range min(4, len(list)) {
			count := 0
			for part := range stretches(slices.Concat(x[1].Pieces, x[0].Pieces)) {
				if part != list[count] {
					t.Fatal(x, part, list[count])
				}
				if count == leave {
					break
				}
				count++
			}
		}
	}
}

// spare returns a function whose list of pieces has more memory behind its end, and all of that memory.
func spare(f api.Func) (api.Func, []api.Piece) {
	whole := append(slices.Clone(f.Pieces), api.Piece{From: 90}, api.Piece{From: 91}, api.Piece{From: 92})
	return api.Func{Den: f.Den, Pieces: whole[:len(f.Pieces)]}, whole
}

// P1 and the document's rules: the functions that are given are not changed, also not behind their ends, and the results share no memory with them.
func TestMemory(t *testing.T) {
	for _, x := range [][2]api.Func{{made(2, 0, 0, 1, 10, 10, 4), made(2, 0, 12, 0)}, {made(2, 0, 12, 0), made(2, 0, 0, 1, 10, 10, 4)}, {made(1, 0, 3, 0), made(1, 0, 3, 0)}, {stairs(20, 3), stairs(20, 7)}} {
		f, wholeF := spare(x[0])
		g, wholeG := spare(x[1])
		beforeF, beforeG := slices.Clone(wholeF), slices.Clone(wholeG)
		Valid(f)
		Eval(f, 3)
		Round(f, 3, api.Even)
		Where(f, 1, 5)
		for _, combined := range []func(f, g api.Func) (api.Func, api.Errno){Add, Least} {
			for _, other := range []api.Func{f, g} {
				result, err := combined(f, other)
				again, _ := combined(f, other)
				kept := slices.Clone(again.Pieces)
				for i := range result.Pieces {
					result.Pieces[i] = api.Piece{From: 70}
				}
				clear(result.Pieces[len(result.Pieces):cap(result.Pieces)])
				if err != api.OK || !slices.Equal(again.Pieces, kept) || !slices.Equal(wholeF, beforeF) || !slices.Equal(wholeG, beforeG) {
					t.Fatal(x, err, again, wholeF, wholeG)
				}
			}
		}
	}
}
