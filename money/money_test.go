package money

import (
	"math"
	"math/big"
	"slices"
	"strings"
	"testing"

	"wageoffice/api"
)

var modes = []int{api.Down, api.Near, api.Even}

// extremes are integers at and around every bound of the functions.
var extremes = []int{
	math.MinInt, math.MinInt + 1, -api.MaxCents - 1, -api.MaxCents, -api.MaxRatio - 1, -api.MaxRatio, -1, 0,
	1, 2, 3, 4, api.MaxRatio, api.MaxRatio + 1, api.MaxCents, api.MaxCents + 1, math.MaxInt - 1, math.MaxInt,
}

func eur(cents int) api.Amount { return api.Amount{Cur: "EUR", Cents: cents} }

func usd(cents int) api.Amount { return api.Amount{Cur: "USD", Cents: cents} }

func abs(n int) int { return max(n, -n) }

// scaled is Scale for arguments that have a result.
func scaled(t *testing.T, cents, num, den, mode int) int {
	t.Helper()
	n, err := Scale(cents, num, den, mode)
	if err != api.OK {
		t.Fatalf("Scale(%d, %d, %d, %d): %v", cents, num, den, mode, err)
	}
	return n
}

// divided is Split for arguments that have a result.
func divided(t *testing.T, cents int, weights []int) []int {
	t.Helper()
	list, err := Split(cents, weights)
	if err != api.OK || len(list) != len(weights) {
		t.Fatalf("Split(%d, %v) = %v, %v", cents, weights, list, err)
	}
	return list
}

// P1.1, A1: the currency and the bounds.
func TestValid(t *testing.T) {
	for _, cur := range []string{"EUR", "USD", "AAA", "ZZZ", "AZA"} {
		for _, cents := range []int{0, 1, -1, api.MaxCents, -api.MaxCents} {
			if !Valid(api.Amount{Cur: cur, Cents: cents}) {
				t.Error(cur, cents)
			}
		}
	}
	for _, cents := range []int{api.MaxCents + 1, -api.MaxCents - 1, math.MaxInt, math.MinInt} {
		if Valid(eur(cents)) {
			t.Error(cents)
		}
	}
	for _, cur := range notCurrencies {
		if Valid(api.Amount{Cur: cur}) {
			t.Errorf("%q", cur)
		}
	}
}

// notCurrencies contains the neighbours of the letters, and texts with three runes or three bytes that are not three letters.
var notCurrencies = []string{
	"", "E", "EU", "EURO", "eur", "EUr", "eUR", "EuR", "EU1", "EU ", " EU", "@AB", "A@B", "AB@", "[AB", "AB[", "ÄUR", "ÄU", "EU\xff", "EU\x00", "Ａ", "ＡＢＣ",
}

// P1.1, A2: sums, and errors in their order.
func TestAdd(t *testing.T) {
	for _, x := range []struct{ a, b, sum int }{
		{0, 0, 0}, {150, -200, -50}, {1, 2, 3}, {api.MaxCents - 1, 1, api.MaxCents}, {-api.MaxCents + 1, -1, -api.MaxCents}, {api.MaxCents, -api.MaxCents, 0},
	} {
		if s, err := Add(eur(x.a), eur(x.b)); s != eur(x.sum) || err != api.OK {
			t.Error(x, s, err)
		}
		if s, err := Add(usd(x.a), usd(x.b)); s != usd(x.sum) || err != api.OK {
			t.Error(x, s, err)
		}
	}
	for _, x := range []struct {
		a, b api.Amount
		want api.Errno
	}{
		{eur(api.MaxCents + 1), eur(0), api.ErrArg},
		{eur(0), eur(-api.MaxCents - 1), api.ErrArg},
		{eur(math.MaxInt), eur(math.MaxInt), api.ErrArg},
		{eur(math.MinInt), eur(math.MinInt), api.ErrArg},
		{eur(math.MinInt), usd(0), api.ErrArg},
		{api.Amount{Cur: "eur"}, api.Amount{Cur: "eur"}, api.ErrArg},
		{api.Amount{}, eur(0), api.ErrArg},
		{eur(0), api.Amount{Cur: "EU"}, api.ErrArg},
		{eur(1), usd(1), api.ErrUnit},
		{eur(api.MaxCents), usd(api.MaxCents), api.ErrUnit},
		{eur(api.MaxCents), eur(1), api.ErrRange},
		{eur(-1), eur(-api.MaxCents), api.ErrRange},
		{eur(api.MaxCents), eur(api.MaxCents), api.ErrRange},
	} {
		if s, err := Add(x.a, x.b); s != (api.Amount{}) || err != x.want {
			t.Error(x, s, err)
		}
	}
}

// P1.6: addition is commutative, associative where no error occurs, and adding the negative amount yields zero.
func TestAdditionLaws(t *testing.T) {
	cents := []int{-api.MaxCents, -api.MaxCents / 2, -101, -1, 0, 1, 99, api.MaxCents / 2, api.MaxCents/2 + 1, api.MaxCents}
	for _, a := range cents {
		if s, err := Add(eur(a), eur(-a)); s != eur(0) || err != api.OK {
			t.Error(a, s, err)
		}
		for _, b := range cents {
			ab, errAB := Add(eur(a), eur(b))
			if ba, err := Add(eur(b), eur(a)); ba != ab || err != errAB {
				t.Error(a, b, ab, errAB, ba, err)
			}
			for _, c := range cents {
				bc, errBC := Add(eur(b), eur(c))
				if errAB != api.OK || errBC != api.OK {
					continue
				}
				left, errLeft := Add(ab, eur(c))
				right, errRight := Add(eur(a), bc)
				if left != right || errLeft != errRight {
					t.Error(a, b, c, left, errLeft, right, errRight)
				}
			}
		}
	}
}

// P1.1, A3 and the section Examples.
func TestScaleExamples(t *testing.T) {
	for _, x := range []struct{ cents, num, den, down, near, even int }{
		{7, 1, 2, 3, 4, 4}, {-5, 1, 2, -3, -3, -2}, {5, 1, 2, 2, 3, 2}, {-7, 1, 2, -4, -4, -4},
		{1, 1, 2, 0, 1, 0}, {-1, 1, 2, -1, -1, 0}, {1, -1, 2, -1, -1, 0}, {-1, -1, 2, 0, 1, 0}, {3, 1, 2, 1, 2, 2}, {-3, 1, 2, -2, -2, -2},
		{10, 1, 3, 3, 3, 3}, {11, 1, 3, 3, 4, 4}, {-10, 1, 3, -4, -3, -3}, {-11, 1, 3, -4, -4, -4},
		{6, 1, 3, 2, 2, 2}, {-6, 1, 3, -2, -2, -2}, {0, 5, 9, 0, 0, 0}, {5, 0, 9, 0, 0, 0}, {100, -3, 7, -43, -43, -43},
		{10, 15, 60, 2, 3, 2},
		{api.MaxCents, api.MaxRatio, api.MaxRatio, api.MaxCents, api.MaxCents, api.MaxCents},
		{-api.MaxCents, api.MaxRatio, api.MaxRatio, -api.MaxCents, -api.MaxCents, -api.MaxCents},
		{api.MaxCents, -1, 1, -api.MaxCents, -api.MaxCents, -api.MaxCents},
		{api.MaxCents, 1, api.MaxRatio, 1000000, 1000000, 1000000},
		{1, 1, api.MaxRatio, 0, 0, 0}, {-1, 1, api.MaxRatio, -1, 0, 0},
	} {
		for mode, want := range map[int]int{api.Down: x.down, api.Near: x.near, api.Even: x.even} {
			if n := scaled(t, x.cents, x.num, x.den, mode); n != want {
				t.Error(x, mode, n)
			}
		}
	}
}

// P1.1, A3: invalid arguments, results out of range, and their order.
func TestScaleErrors(t *testing.T) {
	for _, x := range []struct {
		cents, num, den, mode int
		want                  api.Errno
	}{
		{api.MaxCents + 1, 1, 1, api.Down, api.ErrArg}, {-api.MaxCents - 1, 1, 1, api.Down, api.ErrArg}, {math.MinInt, 0, 1, api.Even, api.ErrArg}, {math.MaxInt, 1, api.MaxRatio, api.Near, api.ErrArg},
		{1, api.MaxRatio + 1, 1, api.Down, api.ErrArg}, {1, -api.MaxRatio - 1, 1, api.Near, api.ErrArg}, {0, math.MinInt, 1, api.Even, api.ErrArg},
		{1, 1, 0, api.Down, api.ErrArg}, {1, 1, -1, api.Near, api.ErrArg}, {1, 1, api.MaxRatio + 1, api.Even, api.ErrArg}, {1, 1, math.MinInt, api.Even, api.ErrArg},
		{1, 1, 1, -1, api.ErrArg}, {1, 1, 1, 3, api.ErrArg}, {1, 1, 1, math.MaxInt, api.ErrArg}, {1, 1, 1, math.MinInt, api.ErrArg},
		{api.MaxCents, 2, 1, 3, api.ErrArg}, {api.MaxCents, 2, 0, api.Down, api.ErrArg},
		{api.MaxCents, 2, 1, api.Down, api.ErrRange}, {-api.MaxCents, 2, 1, api.Down, api.ErrRange}, {api.MaxCents, -2, 1, api.Even, api.ErrRange},
		{api.MaxCents, api.MaxRatio, 1, api.Near, api.ErrRange}, {-api.MaxCents, api.MaxRatio, 1, api.Even, api.ErrRange},
		{api.MaxCents, 1000000, 999999, api.Down, api.ErrRange},
	} {
		if n, err := Scale(x.cents, x.num, x.den, x.mode); n != 0 || err != x.want {
			t.Error(x, n, err)
		}
	}
}

// P1.1, A3: between MaxCents and the next integer only the rounding decides whether the result is out of range.
func TestScaleRangeAfterRounding(t *testing.T) {
	const most, out = api.MaxCents, 0
	for _, x := range []struct{ cents, num, den, down, near, even int }{
		{666666666667, 3, 2, most, out, most},     // MaxCents + 1/2
		{44776119403, 67, 3, most, most, most},    // MaxCents + 1/3
		{58181254, 51563, 3, most, out, out},      // MaxCents + 2/3
		{-666666666667, 3, 2, out, out, -most},    // -MaxCents - 1/2
		{-44776119403, 67, 3, out, -most, -most},  // -MaxCents - 1/3
		{44776119403, -67, 3, out, -most, -most},  // -MaxCents - 1/3
		{-58181254, 51563, 3, out, out, out},      // -MaxCents - 2/3
		{-571428571429, -7, 4, most, out, out},    // MaxCents + 3/4
		{14440433213, 277, 4, most, most, most},   // MaxCents + 1/4
		{-14440433213, 277, 4, out, -most, -most}, // -MaxCents - 1/4
	} {
		for mode, want := range map[int]int{api.Down: x.down, api.Near: x.near, api.Even: x.even} {
			wantErr := api.OK
			if want == out {
				wantErr = api.ErrRange
			}
			if n, err := Scale(x.cents, x.num, x.den, mode); n != want || err != wantErr {
				t.Error(x, mode, n, err)
			}
		}
	}
}

// exact is what A3 says, from the fraction alone: the candidates are the integers around it.
func exact(cents, num, den, mode int) int {
	product := new(big.Int).Mul(big.NewInt(int64(cents)), big.NewInt(int64(num)))
	// Div of package big rounds down for positive divisors.
	low := new(big.Int).Div(product, big.NewInt(int64(den))).Int64()
	fraction := new(big.Rat).SetFrac(product, big.NewInt(int64(den)))
	toLow := new(big.Rat).Sub(fraction, new(big.Rat).SetInt64(low))
	order := toLow.Cmp(big.NewRat(1, 2))
	switch {
	case mode == api.Down || order < 0:
		return int(low)
	case order > 0:
		return int(low) + 1
	case mode == api.Even && low%2 == 0, mode == api.Near && fraction.Sign() < 0:
		return int(low)
	}
	return int(low) + 1
}

var sampleCents = []int{-api.MaxCents, -api.MaxCents + 1, -1000001, -999, -50, -7, -6, -5, -4, -3, -2, -1, 0, 1, 2, 3, 4, 5, 6, 7, 10, 50, 99, 100, 12345, 999999, 123456789, 500000000001, api.MaxCents - 1, api.MaxCents}

var sampleRatios = []int{1, 2, 3, 4, 5, 6, 7, 8, 9, 10, 59, 60, 100, 999, 1000, 4096, 333333, 500000, 999998, 999999, api.MaxRatio}

// forRatios calls f for the sample cents and all sample ratios with both signs of the numerator.
func forRatios(f func(cents, num, den int)) {
	for _, cents := range sampleCents {
		for _, den := range sampleRatios {
			f(cents, 0, den)
			for _, num := range sampleRatios {
				f(cents, num, den)
				f(cents, -num, den)
			}
		}
	}
}

// P1.1, A3: the value is the one that the definition gives, or out of range exactly if that one is.
func TestScaleExact(t *testing.T) {
	forRatios(func(cents, num, den int) {
		for _, mode := range modes {
			want, wantErr := exact(cents, num, den, mode), api.OK
			if abs(want) > api.MaxCents {
				want, wantErr = 0, api.ErrRange
			}
			if n, err := Scale(cents, num, den, mode); n != want || err != wantErr {
				t.Fatal(cents, num, den, mode, n, err, want, wantErr)
			}
		}
	})
}

// P1.2: the rounded value is near the fraction, and Near and Even commute with negation.
func TestRounding(t *testing.T) {
	forRatios(func(cents, num, den int) {
		for _, mode := range modes {
			n, err := Scale(cents, num, den, mode)
			if err != api.OK {
				continue
			}
			// The deviation times den.
			away := cents*num - n*den
			if mode == api.Down && (away < 0 || away >= den) || mode != api.Down && 2*abs(away) > den {
				t.Fatal(cents, num, den, mode, n)
			}
			if mode == api.Down {
				continue
			}
			if m, err := Scale(-cents, num, den, mode); m != -n || err != api.OK {
				t.Fatal(cents, num, den, mode, n, m, err)
			}
			if m, err := Scale(cents, -num, den, mode); m != -n || err != api.OK {
				t.Fatal(cents, num, den, mode, n, m, err)
			}
		}
	})
}

// P1.3: scaling a sum with the mode Down yields the sum of the scaled parts, or one cent more.
func TestScaledSums(t *testing.T) {
	more, same := 0, 0
	for _, a := range sampleCents {
		for _, b := range sampleCents {
			if abs(a+b) > api.MaxCents {
				continue
			}
			for _, den := range sampleRatios {
				for _, num := range []int{-den, -1, 0, 1, den / 2, den/2 + 1, den - 1, den} {
					if num > den {
						continue
					}
					whole := scaled(t, a+b, num, den, api.Down)
					switch whole - scaled(t, a, num, den, api.Down) - scaled(t, b, num, den, api.Down) {
					case 0:
						same++
					case 1:
						more++
					default:
						t.Fatal(a, b, num, den)
					}
				}
			}
		}
	}
	if more == 0 || same == 0 {
		t.Error(more, same)
	}
}

// P1.3: where num is not negative, scaling is monotone.
func TestScalingIsMonotone(t *testing.T) {
	for _, mode := range modes {
		for _, den := range sampleRatios {
			for _, num := range []int{0, 1, den / 2, den/2 + 1, den - 1, den} {
				if num > den {
					continue
				}
				last := -api.MaxCents
				for _, start := range []int{-api.MaxCents, -30, api.MaxCents - 60} {
					for cents := start; cents <= start+60; cents++ {
						n := scaled(t, cents, num, den, mode)
						if n < last {
							t.Fatal(cents, num, den, mode, n, last)
						}
						last = n
					}
				}
			}
		}
	}
}

// P1.1, A4 and the section Examples.
func TestSplitExamples(t *testing.T) {
	for _, x := range []struct {
		cents         int
		weights, want []int
	}{
		{100, []int{1, 1, 1}, []int{34, 33, 33}},
		{-100, []int{0, 1, 2}, []int{0, -33, -67}},
		{-100, []int{1, 1, 1}, []int{-34, -33, -33}},
		{2, []int{1, 1, 1}, []int{1, 1, 0}},
		{-2, []int{1, 1, 1}, []int{-1, -1, 0}},
		{1, []int{1, 1}, []int{1, 0}},
		{1, []int{1, 2, 2}, []int{0, 1, 0}},
		{10, []int{1, 2, 4}, []int{1, 3, 6}},
		{10, []int{4, 2, 1}, []int{6, 3, 1}},
		{7, []int{3, 0, 4}, []int{3, 0, 4}},
		{0, []int{5}, []int{0}},
		{0, []int{0, 5}, []int{0, 0}},
		{17, []int{9}, []int{17}},
		{5, []int{0, 0, 1, 0}, []int{0, 0, 5, 0}},
		{api.MaxCents, []int{api.MaxRatio}, []int{api.MaxCents}},
		{-api.MaxCents, []int{api.MaxRatio, api.MaxRatio}, []int{-api.MaxCents / 2, -api.MaxCents / 2}},
		{api.MaxCents, []int{1, 1, 1}, []int{333333333334, 333333333333, 333333333333}},
	} {
		if list := divided(t, x.cents, x.weights); !slices.Equal(list, x.want) {
			t.Error(x, list)
		}
	}
}

// P1.1, A4: as many weights as are allowed, all of the greatest.
func TestSplitMostWeights(t *testing.T) {
	weights := slices.Repeat([]int{api.MaxRatio}, api.MaxWeights)
	list := divided(t, api.MaxCents-1, weights)
	for i, part := range list {
		// 10^12 is a multiple of 64, so that one cent is missing, in the last part.
		want := api.MaxCents / api.MaxWeights
		if i == api.MaxWeights-1 {
			want--
		}
		if part != want {
			t.Error(i, part)
		}
	}
}

// P1.1, A4: invalid arguments in their order.
func TestSplitErrors(t *testing.T) {
	tooMany := slices.Repeat([]int{1}, api.MaxWeights+1)
	for _, x := range []struct {
		cents   int
		weights []int
		want    api.Errno
	}{
		{5, tooMany, api.ErrLimit}, {api.MaxCents + 1, tooMany, api.ErrLimit}, {5, make([]int, api.MaxWeights+1), api.ErrLimit}, {5, slices.Repeat([]int{-1}, api.MaxWeights+1), api.ErrLimit},
		{api.MaxCents + 1, []int{1}, api.ErrArg}, {-api.MaxCents - 1, []int{1}, api.ErrArg}, {math.MinInt, []int{1}, api.ErrArg}, {math.MaxInt, []int{1}, api.ErrArg},
		{5, nil, api.ErrArg}, {5, []int{}, api.ErrArg}, {0, []int{0}, api.ErrArg}, {5, []int{0, 0}, api.ErrArg},
		{5, []int{-1}, api.ErrArg}, {5, []int{-1, 2}, api.ErrArg}, {5, []int{2, -1}, api.ErrArg}, {5, []int{1, -1}, api.ErrArg}, {5, []int{math.MinInt}, api.ErrArg},
		{5, []int{api.MaxRatio + 1}, api.ErrArg}, {5, []int{1, math.MaxInt}, api.ErrArg}, {5, []int{math.MaxInt, math.MaxInt, 2}, api.ErrArg},
	} {
		if list, err := Split(x.cents, x.weights); len(list) != 0 || err != x.want {
			t.Error(x, list, err)
		}
	}
}

// Split neither changes its weights nor returns their memory.
func TestSplitLeavesItsWeights(t *testing.T) {
	weights := []int{3, 1, 2}
	list := divided(t, 100, weights)
	clear(list)
	if !slices.Equal(weights, []int{3, 1, 2}) {
		t.Error(weights)
	}
}

// forWeights calls f for many lists of weights: all short ones of small weights, and some long ones.
func forWeights(f func(weights []int)) {
	for _, size := range []int{1, 2, 3, 4} {
		for code := range 625 {
			weights, sum := make([]int, size), 0
			for i := range weights {
				weights[i] = code % 5
				sum += weights[i]
				code /= 5
			}
			if code == 0 && sum > 0 {
				f(weights)
			}
		}
	}
	f([]int{api.MaxRatio, 1, 0, api.MaxRatio - 1, 333333, 333334, 7})
	f([]int{1, api.MaxRatio})
	long := make([]int, api.MaxWeights)
	for i := range long {
		long[i] = i * i * 7919 % 10007
	}
	f(long)
	f(slices.Repeat([]int{13}, api.MaxWeights))
}

var splitCents = []int{-api.MaxCents, -999999999989, -101, -100, -7, -3, -2, -1, 0, 1, 2, 3, 4, 5, 6, 7, 8, 9, 10, 11, 12, 97, 100, 10007, 777777777777, api.MaxCents - 1, api.MaxCents}

// P1.4: the parts add up to the whole, each is its exact share rounded down or up, and they are ordered as their weights are.
func TestDivision(t *testing.T) {
	forWeights(func(weights []int) {
		for _, cents := range splitCents {
			list := divided(t, cents, weights)
			sum, rest := 0, cents
			for i, weight := range weights {
				sum += weight
				rest -= list[i]
			}
			if rest != 0 {
				t.Fatal(cents, weights, list)
			}
			for i, weight := range weights {
				away := list[i]*sum - cents*weight
				if abs(away) >= sum || list[i] != 0 && (list[i] < 0) != (cents < 0) || weight == 0 && list[i] != 0 {
					t.Fatal(cents, weights, list, i)
				}
				for k, other := range weights {
					if weight > other && abs(list[i]) < abs(list[k]) {
						t.Fatal(cents, weights, list, i, k)
					}
				}
			}
		}
	})
}

// P1.1, A4: the cents that are left go to the greatest remainders, and of equal remainders to the earlier one.
func TestGreatestRemainders(t *testing.T) {
	forWeights(func(weights []int) {
		sum := 0
		for _, weight := range weights {
			sum += weight
		}
		for _, cents := range splitCents {
			list := divided(t, cents, weights)
			given := func(n int) bool { return abs(list[n]) > abs(cents)*weights[n]/sum }
			left := func(n int) int { return abs(cents) * weights[n] % sum }
			for i := range weights {
				for k := range weights {
					if given(k) && !given(i) && (left(i) > left(k) || left(i) == left(k) && i < k) {
						t.Fatal(cents, weights, list, i, k)
					}
				}
			}
		}
	})
}

// P1.4: a division of a negative amount is the negative of that of the positive one.
func TestDivisionOfNegatives(t *testing.T) {
	forWeights(func(weights []int) {
		for _, cents := range splitCents {
			list, negatives := divided(t, cents, weights), divided(t, -cents, weights)
			for i := range list {
				if list[i] != -negatives[i] {
					t.Fatal(cents, weights, list, negatives)
				}
			}
		}
	})
}

// P1.5: moving a cent from one part to another does not make the sum of the absolute deviations from the exact shares smaller.
func TestFairness(t *testing.T) {
	forWeights(func(weights []int) {
		sum := 0
		for _, weight := range weights {
			sum += weight
		}
		for _, cents := range splitCents {
			list := divided(t, cents, weights)
			// The deviation of a part, times sum, if it gets some more cents; only the two parts of a move matter.
			away := func(i, more int) int { return abs((list[i]+more)*sum - cents*weights[i]) }
			for i := range list {
				for k := range list {
					if i != k && away(i, -1)+away(k, 1) < away(i, 0)+away(k, 0) {
						t.Fatal(cents, weights, list, i, k)
					}
				}
			}
		}
	})
}

// texts are the amounts in EUR with their texts.
var texts = map[string]int{
	"EUR 0.00": 0, "EUR 0.01": 1, "EUR -0.01": -1, "EUR 0.09": 9, "EUR 0.10": 10, "EUR -0.50": -50, "EUR 0.99": 99, "EUR 1.00": 100, "EUR -1.00": -100, "EUR 10.00": 1000, "EUR 12.05": 1205, "EUR -100.10": -10010,
	"EUR 9999999999.99": api.MaxCents - 1, "EUR 10000000000.00": api.MaxCents, "EUR -10000000000.00": -api.MaxCents,
}

// P1.1, A5 and A6.
func TestTexts(t *testing.T) {
	for text, cents := range texts {
		if s := Text(eur(cents)); s != text {
			t.Errorf("%d: %q, %q", cents, s, text)
		}
		if a, err := Parse(text); a != eur(cents) || err != api.OK {
			t.Error(text, a, err)
		}
		other := "XYZ" + text[3:]
		if a, err := Parse(other); a != (api.Amount{Cur: "XYZ", Cents: cents}) || err != api.OK || Text(a) != other {
			t.Error(other, a, err)
		}
	}
}

// P1.1, A5: an amount that is not valid has no text.
func TestTextOfInvalid(t *testing.T) {
	for _, cents := range []int{api.MaxCents + 1, -api.MaxCents - 1, math.MaxInt, math.MinInt} {
		if s := Text(eur(cents)); s != "" {
			t.Error(cents, s)
		}
	}
	for _, cur := range notCurrencies {
		if s := Text(api.Amount{Cur: cur, Cents: 100}); s != "" {
			t.Errorf("%q: %q", cur, s)
		}
	}
}

// P1.1, A6: texts of the wrong form.
func TestParseErrors(t *testing.T) {
	wrong := []string{
		"", "E", "EUR", "EUR ", "EUR -", "EUR .", "EUR -.", "EUR 1", "EUR 1.", "EUR 1.0", "EUR 1.000", "EUR .50", "EUR -.50", "EUR 100", "EUR 1,00",
		"EUR 01.00", "EUR 00.00", "EUR 00.50", "EUR -01.00", "EUR 010000000000.01", "EUR -0.00", "EUR -00.00", "EUR +1.00", "EUR --1.00", "EUR - 1.00", "EUR 1.-1", "EUR 1.+1", "EUR 1-.00",
		"EUR  1.00", " EUR 1.00", "EUR 1.00 ", "EUR 1.00\n", "EUR\t1.00", "EUR1.00", "EUR-1.00", "EUR 1 000.00", "EUR 1.000.00", "EUR 1.0.0", "EUR 1..00", "EUR 1.00.", "EUR 1_0.00",
		"EUR 1.0a", "EUR 1.a0", "EUR a.00", "EUR 1a.00", "EUR 0x1.00", "EUR 1e2.00", "EUR 1/.00", "EUR 1:.00", "EUR 1.0/", "EUR 1.:0",
		"EUR 1.0\xff", "EUR \xff.00", "EUR 1.\u0660\u0660", "EUR 1.\u0660", "EUR \u0661.00", "EUR １.00", "EUR\u00a01.00", "1.00 EUR", "1.00",
		// The form is examined before the range.
		"EUR 10000000000.0", "EUR 99999999999999999999999.9", "EUR 99999999999999999999999", "EUR 099999999999999999999.00", "EUR 99999999999999999999999x.99", "EUR 99999999999999999999999.9x",
		"eur 10000000000.01", "EURO 10000000000.01", "EUR " + strings.Repeat("9", 5000), "EUR " + strings.Repeat("0", 5000) + ".00",
	}
	for _, cur := range notCurrencies {
		wrong = append(wrong, cur+" 1.00", cur+"1.00")
	}
	for _, text := range wrong {
		if a, err := Parse(text); a != (api.Amount{}) || err != api.ErrFormat {
			t.Errorf("%q: %v, %v", text, a, err)
		}
	}
}

// P1.1, A6: texts of the right form that denote too much, also where the cents do not fit into an int or would come back into the range.
func TestParseRange(t *testing.T) {
	for _, digits := range []string{
		"10000000000.01", "10000000001.00", "99999999999.99", "99999999999999999999999.99",
		"92233720368547758.08", "92233720368547758.07", "184467440737095516.16", "184467440737095517.16", "1844674407370955161600.00", strings.Repeat("1", 5000) + ".00", "1" + strings.Repeat("0", 64) + ".00",
	} {
		for _, text := range []string{"EUR " + digits, "EUR -" + digits} {
			if a, err := Parse(text); a != (api.Amount{}) || err != api.ErrRange {
				t.Errorf("%q: %v, %v", text, a, err)
			}
		}
	}
}

// P1.7: what Text returns is parsed to the same amount.
func TestParseOfText(t *testing.T) {
	check := func(cents int) {
		if a, err := Parse(Text(eur(cents))); a != eur(cents) || err != api.OK {
			t.Fatal(cents, Text(eur(cents)), a, err)
		}
	}
	for cents := range 12000 {
		check(cents)
		check(-cents)
		check(api.MaxCents - cents)
		check(cents - api.MaxCents)
	}
	for cents := 1; cents <= api.MaxCents; cents *= 10 {
		check(cents)
		check(cents - 1)
		check(1 - cents)
	}
}

// P1.7: each text that Parse accepts is the one that Text returns, so that no amount has two texts.
func TestTextOfParse(t *testing.T) {
	accepted := 0
	var extend func(text string, more int)
	extend = func(text string, more int) {
		if a, err := Parse(text); err == api.OK {
			accepted++
			if Text(a) != text {
				t.Fatalf("%q: %v, %q", text, a, Text(a))
			}
		}
		for _, next := range "019-. E" {
			if more > 0 {
				extend(text+string(next), more-1)
			}
		}
	}
	extend("EUR ", 6)
	if accepted == 0 {
		t.Error("nothing was accepted")
	}
}

// P1: no function panics, for any arguments, and every other result is zero with an error.
func TestExtremes(t *testing.T) {
	for _, a := range extremes {
		for _, b := range extremes {
			if s, err := Add(eur(a), eur(b)); err != api.OK && s != (api.Amount{}) {
				t.Error(a, b, s, err)
			}
			if list, err := Split(a, []int{b, 1}); err != api.OK && len(list) != 0 {
				t.Error(a, b, list, err)
			}
			for _, den := range extremes {
				for _, mode := range extremes {
					if n, err := Scale(a, b, den, mode); err != api.OK && n != 0 {
						t.Error(a, b, den, mode, n, err)
					}
				}
			}
		}
		if valid := Valid(eur(a)); valid != (Text(eur(a)) != "") {
			t.Error(a, valid)
		}
	}
}

// P1: Parse ends for every byte in every place of a text.
func TestParseEveryByte(t *testing.T) {
	text := "EUR -12.05"
	for i := range len(text) {
		for b := range 256 {
			changed := text[:i] + string([]byte{byte(b)}) + text[i+1:]
			if a, err := Parse(changed); err == api.OK && Text(a) != changed || err != api.OK && (err != api.ErrFormat || a != (api.Amount{})) {
				t.Errorf("%q: %v, %v", changed, a, err)
			}
		}
		if a, err := Parse(text[:i]); err != api.ErrFormat || a != (api.Amount{}) {
			t.Errorf("%q: %v, %v", text[:i], a, err)
		}
	}
}
