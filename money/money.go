// Package money computes with amounts of money exactly.
package money

import (
	"slices"
	"strconv"
	"strings"

	"wageoffice/api"
)

// Valid reports whether an amount has a currency of three upper-case letters and at most MaxCents cents in absolute value.
func Valid(a api.Amount) bool {
	return isCurrency(a.Cur) && within(a.Cents, api.MaxCents)
}

func isCurrency(text string) bool {
	if len(text) != 3 {
		return false
	}
	for _, letter := range text {
		if letter < 'A' || letter > 'Z' {
			return false
		}
	}
	return true
}

// within reports whether the absolute value of n is at most limit. It looks at both ends because the least integer has no absolute value.
func within(n, limit int) bool {
	return -limit <= n && n <= limit
}

// Add returns the sum of two amounts of one currency.
func Add(a, b api.Amount) (api.Amount, api.Errno) {
	if !Valid(a) || !Valid(b) {
		return api.Amount{}, api.ErrArg
	}
	if a.Cur != b.Cur {
		return api.Amount{}, api.ErrUnit
	}
	sum := a.Cents + b.Cents
	if !within(sum, api.MaxCents) {
		return api.Amount{}, api.ErrRange
	}
	return api.Amount{Cur: a.Cur, Cents: sum}, api.OK
}

// Scale returns cents * num / den, rounded.
func Scale(cents, num, den, mode int) (int, api.Errno) {
	if !within(cents, api.MaxCents) || !within(num, api.MaxRatio) || den < 1 || den > api.MaxRatio || !isMode(mode) {
		return 0, api.ErrArg
	}
	// The product is at most MaxCents * MaxRatio = 10^18, so that it fits into an int.
	scaled := round(cents*num, den, mode)
	if !within(scaled, api.MaxCents) {
		return 0, api.ErrRange
	}
	return scaled, api.OK
}

func isMode(mode int) bool {
	return mode == api.Down || mode == api.Near || mode == api.Even
}

// round returns num / den, rounded. Even differs from Near only at halves, and Near differs from Down only from halves on; so each mode decides its own case and leaves the others to the next one.
func round(num, den, mode int) int {
	floor, rest := divide(num, den)
	switch mode {
	case api.Even:
		if 2*rest == den {
			return floor + (floor & 1)
		}
		fallthrough
	case api.Near:
		// If the floor is negative, so is the fraction, and its half is farther from zero at the floor.
		if 2*rest > den || 2*rest == den && floor >= 0 {
			return floor + 1
		}
		fallthrough
	default:
		return floor
	}
}

// divide returns the quotient rounded down, and the remainder from 0 to den - 1, while the operators of Go round toward zero.
func divide(num, den int) (int, int) {
	quotient, rest := num/den, num%den
	if rest < 0 {
		return quotient - 1, rest + den
	}
	return quotient, rest
}

// Split divides cents in the proportion of weights; the parts add up to the whole.
func Split(cents int, weights []int) ([]int, api.Errno) {
	if len(weights) > api.MaxWeights {
		return nil, api.ErrLimit
	}
	sum, ok := total(weights)
	if !ok || sum == 0 || !within(cents, api.MaxCents) {
		return nil, api.ErrArg
	}
	if cents >= 0 {
		return parts(cents, weights, sum), api.OK
	}
	list := parts(-cents, weights, sum)
	for i := range list {
		list[i] = -list[i]
	}
	return list, api.OK
}

// total returns the sum of the weights, and whether each one is from 0 to MaxRatio.
func total(weights []int) (int, bool) {
	sum := 0
	for _, weight := range weights {
		if weight < 0 || weight > api.MaxRatio {
			return 0, false
		}
		sum += weight
	}
	return sum, true
}

// parts divides cents, which are not negative, in the proportion of weights with the given sum.
func parts(cents int, weights []int, sum int) []int {
	list := make([]int, len(weights))
	rests := make([]int, len(weights))
	order := make([]int, len(weights))
	left := cents
	for i, weight := range weights {
		list[i], rests[i] = divide(cents*weight, sum)
		order[i] = i
		left -= list[i]
	}
	// The sort is stable, so that of equal remainders the earlier one comes first.
	slices.SortStableFunc(order, func(a, b int) int { return rests[b] - rests[a] })
	// The remainders add up to left * sum and each one is below sum, so that fewer cents are left than there are parts.
	for _, i := range order[:left] {
		list[i]++
	}
	return list
}

// Text returns the text of an amount.
func Text(a api.Amount) string {
	if !Valid(a) {
		return ""
	}
	sign, cents := "", a.Cents
	if cents < 0 {
		sign, cents = "-", -cents
	}
	return a.Cur + " " + sign + strconv.Itoa(cents/100) + "." + strconv.Itoa(cents/10%10) + strconv.Itoa(cents%10)
}

// Parse returns the amount with a text.
func Parse(text string) (api.Amount, api.Errno) {
	if len(text) < 4 || !isCurrency(text[:3]) || text[3] != ' ' {
		return api.Amount{}, api.ErrFormat
	}
	digits, negative := strings.CutPrefix(text[4:], "-")
	cents, ok := parseCents(digits)
	if !ok || negative && cents == 0 {
		return api.Amount{}, api.ErrFormat
	}
	if cents > api.MaxCents {
		return api.Amount{}, api.ErrRange
	}
	if negative {
		cents = -cents
	}
	return api.Amount{Cur: text[:3], Cents: cents}, api.OK
}

// parseCents returns the cents of a text of whole units, a point and two digits, and whether the text has this form.
func parseCents(text string) (int, bool) {
	whole, fraction, _ := strings.Cut(text, ".")
	if len(fraction) != 2 || len(whole) > 1 && whole[0] == '0' {
		return 0, false
	}
	units, ok := number(whole)
	if !ok {
		return 0, false
	}
	cents, ok := number(fraction)
	return 100*units + cents, ok
}

// number returns the number that a text of one or more digits denotes, and whether it is such a text. Every number above MaxCents becomes MaxCents + 1, so that a text of any length neither overflows nor comes back into the range.
func number(text string) (int, bool) {
	n := 0
	for _, digit := range text {
		if digit < '0' || digit > '9' {
			return 0, false
		}
		n = min(10*n+int(digit-'0'), api.MaxCents+1)
	}
	return n, text != ""
}
