package span

import (
	"math"
	"math/rand"
	"slices"
	"testing"

	"wageoffice/api"
)

const edge = 1 << 60 // the greatest bound that a proper span can have

// list returns the spans with the given bounds.
func list(bounds ...int) []api.Span {
	var l []api.Span
	for i := 0; i+1 < len(bounds); i += 2 {
		l = append(l, api.Span{From: bounds[i], To: bounds[i+1]})
	}
	return l
}

// properBy is the chapter's definition of a proper span.
func properBy(s api.Span) bool {
	return !(s.From < -edge) && !(s.To > edge) && s.From < s.To
}

// hasBy is the chapter's definition of the set of a list.
func hasBy(l []api.Span, n int) bool {
	for _, s := range l {
		if properBy(s) && s.From <= n && n < s.To {
			return true
		}
	}
	return false
}

// validBy is the chapter's definition of the normal form.
func validBy(l []api.Span) bool {
	for i, s := range l {
		if !properBy(s) || i > 0 && l[i-1].To >= s.From {
			return false
		}
	}
	return true
}

// cuts returns all bounds of proper spans in some lists, sorted, each one once. Between two successive ones no set of these lists changes.
func cuts(lists ...[]api.Span) []int {
	var all []int
	for _, l := range lists {
		for _, s := range l {
			if properBy(s) {
				all = append(all, s.From, s.To)
			}
		}
	}
	slices.Sort(all)
	return slices.Compact(all)
}

// sizeBy is the sum of the stretches between successive bounds that are in the set of a list.
func sizeBy(l []api.Span) int {
	size := 0
	all := cuts(l)
	for i := 1; i < len(all); i++ {
		if hasBy(l, all[i-1]) {
			size += all[i] - all[i-1]
		}
	}
	return size
}

// probes are all numbers around the bounds of some lists, and numbers far from them.
func probes(lists ...[]api.Span) []int {
	all := []int{math.MinInt, -edge - 1, -edge, -1, 0, 1, edge - 1, edge, math.MaxInt}
	for _, l := range lists {
		for _, s := range l {
			all = append(all, s.From-1, s.From, s.From+1, s.To-1, s.To, s.To+1)
		}
	}
	slices.Sort(all)
	return slices.Compact(all)
}

// smallLists are all lists of up to two spans with bounds from 0 to 4, also those that are not proper.
func smallLists() [][]api.Span {
	var spans []api.Span
	for from := range 5 {
		for to := range 5 {
			spans = append(spans, api.Span{From: from, To: to})
		}
	}
	lists := [][]api.Span{nil, {}}
	for _, s := range spans {
		lists = append(lists, []api.Span{s})
		for _, other := range spans {
			lists = append(lists, []api.Span{s, other})
		}
	}
	return lists
}

// farLists have bounds at both sides of those of proper spans, and extreme ones.
func farLists() [][]api.Span {
	bounds := []int{math.MinInt, math.MinInt + 1, -edge - 1, -edge, -edge + 1, 0, edge - 1, edge, edge + 1, math.MaxInt - 1, math.MaxInt}
	lists := [][]api.Span{list(-edge, edge), list(-edge, 0, 0, edge), list(0, edge, -edge, 1), list(-edge, -1, 1, edge)}
	for _, from := range bounds {
		for _, to := range bounds {
			lists = append(lists, list(from, to), list(-3, 3, from, to), list(from, to, edge-2, edge, -edge, 2-edge))
		}
	}
	return lists
}

// randomList returns up to most spans of bounds below width, near to or far from 0, a few of them not proper.
func randomList(random *rand.Rand, most, width int) []api.Span {
	var l []api.Span
	for range random.Intn(most + 1) {
		from := random.Intn(width) - width/2
		l = append(l, api.Span{From: from, To: from + random.Intn(1+width/4) - width/40})
	}
	return l
}

// randomLists returns lists of different lengths and widths: dense, sparse, and with bounds up to those of proper spans.
func randomLists(random *rand.Rand, count int) [][]api.Span {
	var lists [][]api.Span
	for range count {
		for _, width := range []int{8, 40, 1000, 2 * edge} {
			lists = append(lists, randomList(random, 1+random.Intn(12), width))
		}
	}
	return lists
}

// samples are lists of all kinds.
func samples() [][]api.Span {
	lists := append(farLists(), randomLists(rand.New(rand.NewSource(1)), 50)...)
	return append(lists, list(5, 8, 1, 3, 3, 4, 9, 9, 7, 2), list(1, 10), list(0, 2, 5, 7), list(3, 1, 1, 3), list(-5, -1, -1, 0), list(2, 4, 2, 4, 2, 4))
}

// checkSet reports an error unless a list is in normal form and has exactly the members that want says, given all lists that it was made from.
func checkSet(t *testing.T, name string, got []api.Span, want func(n int) bool, from ...[]api.Span) {
	t.Helper()
	if !validBy(got) {
		t.Fatal(name, from, "not in normal form:", got)
	}
	for _, n := range probes(append(from, got)...) {
		if hasBy(got, n) != want(n) {
			t.Fatal(name, from, got, "wrong at", n)
		}
	}
}

// checkPair compares all functions of two lists with the definitions of the chapter.
func checkPair(t *testing.T, a, b []api.Span) {
	t.Helper()
	checkSet(t, "union", Union(a, b), func(n int) bool { return hasBy(a, n) || hasBy(b, n) }, a, b)
	checkSet(t, "meet", Meet(a, b), func(n int) bool { return hasBy(a, n) && hasBy(b, n) }, a, b)
	checkSet(t, "minus", Minus(a, b), func(n int) bool { return hasBy(a, n) && !hasBy(b, n) }, a, b)
}

// checkEqual reports an error unless two lists are equal.
func checkEqual(t *testing.T, name string, got, want []api.Span) {
	t.Helper()
	if !slices.Equal(got, want) {
		t.Fatal(name, got, want)
	}
}

// P4.1: the chapter's examples.
func TestExamples(t *testing.T) {
	checkEqual(t, "normal", Normal(list(5, 8, 1, 3, 3, 4, 9, 9, 7, 2)), list(1, 4, 5, 8))
	checkEqual(t, "meet", Meet(list(1, 10), list(0, 2, 5, 7)), list(1, 2, 5, 7))
	checkEqual(t, "minus", Minus(list(1, 10), list(0, 2, 5, 7)), list(2, 5, 7, 10))
	if n := Size(list(1, 5, 3, 8)); n != 7 {
		t.Error(n)
	}
}

// P4.1, D1: lists that are in normal form, and lists that break one condition each, at its bound and far from it.
func TestValid(t *testing.T) {
	for _, l := range [][]api.Span{
		nil, {}, list(0, 1), list(-1, 0), list(1, 2, 3, 4), list(1, 5, 6, 7, 9, 20),
		list(-edge, edge), list(-edge, -edge+1, edge-1, edge), list(-edge, -1, 0, edge),
	} {
		if !Valid(l) {
			t.Error("not valid:", l)
		}
	}
	for _, l := range [][]api.Span{
		list(0, 0), list(1, 0), list(0, 1, 5, 5), list(5, 5, 6, 7), list(0, 1, 9, 5), list(0, 3, 2, 2),
		list(-edge-1, 0), list(0, edge+1), list(-edge-1, edge+1), list(0, 1, 2, edge+1), list(-edge-1, 0, 1, 2),
		list(math.MinInt, 0), list(0, math.MaxInt), list(math.MinInt, math.MaxInt), list(math.MaxInt, math.MinInt),
		list(1, 3, 3, 4), list(1, 5, 4, 6), list(1, 9, 2, 3), list(1, 3, 1, 3), list(5, 6, 1, 2), list(3, 4, 1, 3),
		list(1, 2, 3, 4, 4, 5), list(1, 2, 5, 6, 3, 4),
	} {
		if Valid(l) {
			t.Error("valid:", l)
		}
	}
	for _, l := range append(samples(), smallLists()...) {
		if Valid(l) != validBy(l) {
			t.Error(l, Valid(l))
		}
	}
}

// P4.1, D3: the members of all lists, around all of their bounds and at extreme integers.
func TestHas(t *testing.T) {
	for _, l := range append(samples(), smallLists()...) {
		for _, n := range probes(l) {
			if Has(l, n) != hasBy(l, n) {
				t.Fatal(l, n, Has(l, n))
			}
		}
	}
	whole := list(-edge, edge)
	for n, want := range map[int]bool{-edge - 1: false, -edge: true, 0: true, edge - 1: true, edge: false, math.MinInt: false, math.MaxInt: false} {
		if Has(whole, n) != want {
			t.Error(n)
		}
	}
	for _, l := range [][]api.Span{nil, list(4, 4), list(5, 3), list(-edge-1, 9), list(0, edge+1), list(math.MinInt, math.MaxInt)} {
		if Has(l, 4) {
			t.Error("a span that is not proper has an element:", l)
		}
	}
}

// P4.1, D3: the sizes of all lists, from none to that of the greatest set.
func TestSize(t *testing.T) {
	for _, x := range []struct {
		l    []api.Span
		want int
	}{
		{nil, 0}, {list(4, 4), 0}, {list(7, 3), 0}, {list(0, 1), 1}, {list(-3, 4), 7}, {list(1, 3, 3, 4), 3}, {list(1, 3, 1, 3), 2}, {list(5, 8, 1, 3, 2, 4), 6},
		{list(-edge, edge), 1 << 61}, {list(-edge, edge, -edge, edge, 0, 9), 1 << 61}, {list(-edge, edge-1), 1<<61 - 1}, {list(-edge-1, 0), 0}, {list(0, edge+1), 0}, {list(math.MinInt, math.MaxInt, 2, 4), 2}, {list(math.MaxInt, math.MinInt), 0},
	} {
		if n := Size(x.l); n != x.want {
			t.Error(x.l, n)
		}
	}
	for _, l := range append(samples(), smallLists()...) {
		if n := Size(l); n != sizeBy(l) {
			t.Error(l, n)
		}
	}
}

// P4.2: the normal form is valid and has the same set, and a valid list is its own normal form.
func TestNormal(t *testing.T) {
	for _, l := range append(samples(), smallLists()...) {
		got := Normal(l)
		checkSet(t, "normal", got, func(n int) bool { return hasBy(l, n) }, l)
		if !Valid(got) {
			t.Fatal("not valid:", l, got)
		}
		checkEqual(t, "normal of normal", Normal(got), got)
		if validBy(l) {
			checkEqual(t, "normal of a valid list", got, l)
		}
	}
	for _, x := range [][2][]api.Span{
		{nil, nil}, {list(4, 4, 9, 2), nil}, {list(3, 5, 1, 3), list(1, 5)}, {list(0, 10, 2, 3), list(0, 10)}, {list(2, 3, 0, 10), list(0, 10)}, {list(1, 2, 3, 4), list(1, 2, 3, 4)}, {list(3, 4, 1, 2), list(1, 2, 3, 4)},
		{list(-edge, edge, 4, 5), list(-edge, edge)}, {list(-edge-1, 0, 4, 5), list(4, 5)}, {list(0, edge+1, 4, 5), list(4, 5)}, {list(math.MinInt, math.MaxInt, 4, 5), list(4, 5)},
	} {
		checkEqual(t, "normal", Normal(x[0]), x[1])
	}
}

// P4.2: lists with the same set have the same normal form, whatever the order of their spans and whichever of them come twice or add nothing.
func TestSameSet(t *testing.T) {
	forms := map[[4]bool][]api.Span{}
	for _, l := range smallLists() {
		set := [4]bool{hasBy(l, 0), hasBy(l, 1), hasBy(l, 2), hasBy(l, 3)}
		if form, ok := forms[set]; ok {
			checkEqual(t, "normal", Normal(l), form)
		}
		forms[set] = Normal(l)
	}
	random := rand.New(rand.NewSource(2))
	for _, l := range samples() {
		other := append(slices.Clone(l), list(3, 3, 8, -8, math.MinInt, math.MaxInt)...)
		for _, s := range l {
			if random.Intn(2) == 0 {
				other = append(other, s)
			}
		}
		random.Shuffle(len(other), func(i, j int) { other[i], other[j] = other[j], other[i] })
		checkEqual(t, "normal", Normal(other), Normal(l))
	}
}

// P4.3: which sets touch, hold, or cross one another.
func TestMembership(t *testing.T) {
	for _, x := range []struct{ a, b, union, meet, minus []api.Span }{
		{nil, nil, nil, nil, nil},
		{list(1, 3), nil, list(1, 3), nil, list(1, 3)},
		{nil, list(1, 3), list(1, 3), nil, nil},
		{list(1, 3), list(1, 3), list(1, 3), list(1, 3), nil},
		{list(3, 5), list(5, 8), list(3, 8), nil, list(3, 5)},
		{list(5, 8), list(3, 5), list(3, 8), nil, list(5, 8)},
		{list(3, 5), list(6, 8), list(3, 5, 6, 8), nil, list(3, 5)},
		{list(1, 6), list(4, 9), list(1, 9), list(4, 6), list(1, 4)},
		{list(1, 9), list(4, 6), list(1, 9), list(4, 6), list(1, 4, 6, 9)},
		{list(1, 9), list(1, 6), list(1, 9), list(1, 6), list(6, 9)},
		{list(1, 9), list(4, 9), list(1, 9), list(4, 9), list(1, 4)},
		{list(1, 9), list(3, 5, 5, 7), list(1, 9), list(3, 7), list(1, 3, 7, 9)},
		{list(1, 5, 5, 9), list(5, 5), list(1, 9), nil, list(1, 9)},
		{list(1, 5, 3, 9), list(4, 6, 2, 5), list(1, 9), list(2, 6), list(1, 2, 6, 9)},
		{list(1, 2, 3, 4), list(2, 3), list(1, 4), nil, list(1, 2, 3, 4)},
		{list(-edge, edge), list(0, 1), list(-edge, edge), list(0, 1), list(-edge, 0, 1, edge)},
		{list(-edge, 0), list(0, edge), list(-edge, edge), nil, list(-edge, 0)},
		{list(-edge, edge), list(-edge, edge), list(-edge, edge), list(-edge, edge), nil},
		{list(1, 9), list(0, edge+1), list(1, 9), nil, list(1, 9)},
		{list(-edge-1, 5), list(1, 9), list(1, 9), nil, nil},
	} {
		checkEqual(t, "union", Union(x.a, x.b), x.union)
		checkEqual(t, "meet", Meet(x.a, x.b), x.meet)
		checkEqual(t, "minus", Minus(x.a, x.b), x.minus)
	}
}

// P4.3: the members of the results for all pairs of small lists, and for pairs of all kinds.
func TestAllPairs(t *testing.T) {
	small := smallLists()
	bits := func(l []api.Span) int {
		set := 0
		for n := range 4 {
			if hasBy(l, n) {
				set |= 1 << n
			}
		}
		return set
	}
	forms := map[int][]api.Span{}
	for set := range 16 {
		var l []api.Span
		for n := range 4 {
			switch {
			case set>>n&1 == 0:
			case n > 0 && set>>(n-1)&1 == 1:
				l[len(l)-1].To = n + 1
			default:
				l = append(l, api.Span{From: n, To: n + 1})
			}
		}
		forms[set] = l
	}
	for _, a := range small {
		for _, b := range small {
			x, y := bits(a), bits(b)
			if !slices.Equal(Union(a, b), forms[x|y]) || !slices.Equal(Meet(a, b), forms[x&y]) || !slices.Equal(Minus(a, b), forms[x&^y]) {
				t.Fatal(a, b, Union(a, b), Meet(a, b), Minus(a, b))
			}
		}
	}
	lists := samples()
	for i, a := range lists {
		for _, b := range lists[i%7:] {
			if len(a)+len(b) < 8 {
				checkPair(t, a, b)
			}
		}
		checkPair(t, a, lists[(7*i+3)%len(lists)])
	}
}

// P4.4: the algebra of sets, over triples of lists.
func TestAlgebra(t *testing.T) {
	random := rand.New(rand.NewSource(3))
	lists := append(samples(), smallLists()...)
	pick := func() []api.Span { return lists[random.Intn(len(lists))] }
	for range 20000 {
		a, b, c := pick(), pick(), pick()
		checkEqual(t, "union commutes", Union(a, b), Union(b, a))
		checkEqual(t, "meet commutes", Meet(a, b), Meet(b, a))
		checkEqual(t, "union associates", Union(a, Union(b, c)), Union(Union(a, b), c))
		checkEqual(t, "meet associates", Meet(a, Meet(b, c)), Meet(Meet(a, b), c))
		checkEqual(t, "union is idempotent", Union(a, a), Normal(a))
		checkEqual(t, "meet is idempotent", Meet(a, a), Normal(a))
		checkEqual(t, "union distributes", Union(a, Meet(b, c)), Meet(Union(a, b), Union(a, c)))
		checkEqual(t, "meet distributes", Meet(a, Union(b, c)), Union(Meet(a, b), Meet(a, c)))
		checkEqual(t, "difference twice", Minus(a, Minus(a, b)), Meet(a, b))
		checkEqual(t, "difference from a union", Minus(a, Union(b, c)), Meet(Minus(a, b), Minus(a, c)))
	}
}

// P4.5: the sizes of the results.
func TestSizes(t *testing.T) {
	lists := append(samples(), smallLists()...)
	for i, a := range lists {
		for j := range 20 {
			b := lists[(31*i+97*j)%len(lists)]
			both, meet := Size(Union(a, b)), Size(Meet(a, b))
			if both+meet != Size(a)+Size(b) {
				t.Fatal(a, b, both, meet)
			}
			if n := Size(Minus(a, b)); n != Size(a)-meet {
				t.Fatal(a, b, n, meet)
			}
		}
	}
}

// shifted returns a list with all bounds increased by one number.
func shifted(l []api.Span, by int) []api.Span {
	var other []api.Span
	for _, s := range l {
		other = append(other, api.Span{From: s.From + by, To: s.To + by})
	}
	return other
}

// P4.6: the results for shifted lists are shifted, up to the bounds of proper spans.
func TestShifting(t *testing.T) {
	random := rand.New(rand.NewSource(4))
	lists := append(smallLists(), list(-100, 5, 7, 100), list(-100, 100), list(-100, -90, 95, 100))
	for range 300 {
		// The bounds are from -100 to 100; so no span becomes proper or ceases to be proper.
		lists = append(lists, randomList(random, 10, 120))
	}
	for i, a := range lists {
		b := lists[(37*i+11)%len(lists)]
		for _, by := range []int{1, -1, 1000, edge - 100, 100 - edge} {
			c, d := shifted(a, by), shifted(b, by)
			checkEqual(t, "normal", Normal(c), shifted(Normal(a), by))
			checkEqual(t, "union", Union(c, d), shifted(Union(a, b), by))
			checkEqual(t, "meet", Meet(c, d), shifted(Meet(a, b), by))
			checkEqual(t, "minus", Minus(c, d), shifted(Minus(a, b), by))
			if Valid(c) != Valid(a) || Size(c) != Size(a) {
				t.Fatal(a, by, Valid(c), Size(c))
			}
			for _, n := range cuts(a, b) {
				if Has(c, n+by) != Has(a, n) || Has(c, n+by-1) != Has(a, n-1) {
					t.Fatal(a, by, n)
				}
			}
		}
	}
}

// divisions returns the list with a proper span divided into two, for each of its spans and points of it: its ends, those near to them, and one between.
func divisions(l []api.Span, random *rand.Rand) [][]api.Span {
	var lists [][]api.Span
	for i, s := range l {
		if !properBy(s) {
			continue
		}
		for _, at := range []int{s.From, s.From + 1, s.From + random.Intn(s.To-s.From), s.To - 1, s.To} {
			parts := append(slices.Clone(l[:i]), api.Span{From: s.From, To: at}, api.Span{From: at, To: s.To})
			lists = append(lists, append(parts, l[i+1:]...))
			turned := append(slices.Clone(l[:i]), api.Span{From: at, To: s.To})
			lists = append(lists, append(append(turned, l[i+1:]...), api.Span{From: s.From, To: at}))
		}
	}
	return lists
}

// P4.7: the results do not change if a span is divided. (Valid tells the parts from the whole, as D1 requires.)
func TestParts(t *testing.T) {
	random := rand.New(rand.NewSource(5))
	lists := append(smallLists(), samples()...)
	for i, a := range lists {
		b := lists[(41*i+13)%len(lists)]
		for _, c := range divisions(a, random) {
			checkEqual(t, "normal", Normal(c), Normal(a))
			checkEqual(t, "union", Union(c, b), Union(a, b))
			checkEqual(t, "union", Union(b, c), Union(b, a))
			checkEqual(t, "meet", Meet(c, b), Meet(a, b))
			checkEqual(t, "meet", Meet(b, c), Meet(b, a))
			checkEqual(t, "minus", Minus(c, b), Minus(a, b))
			checkEqual(t, "minus", Minus(b, c), Minus(b, a))
			if Size(c) != Size(a) {
				t.Fatal(a, c, Size(c))
			}
			for _, n := range probes(c) {
				if Has(c, n) != Has(a, n) {
					t.Fatal(a, c, n)
				}
			}
			if Valid(c) {
				t.Fatal("a list with a divided span is valid:", c)
			}
		}
	}
}

// P1 and the document's rules: the lists that are given are not changed, also not behind their ends, and the results share no memory with them.
func TestMemory(t *testing.T) {
	spare := func(l []api.Span) []api.Span {
		whole := append(slices.Clone(l), list(70, 71, 72, 73, 74, 75)...)
		return whole[:len(l)]
	}
	for _, x := range [][2][]api.Span{{list(1, 4, 5, 8), list(2, 6)}, {list(5, 8, 1, 3, 3, 4), list(9, 9, 7, 2)}, {list(1, 4, 5, 8), nil}, {nil, list(1, 4)}} {
		a, b := spare(x[0]), spare(x[1])
		wholeA, wholeB := slices.Clone(a[:len(a)+3]), slices.Clone(b[:len(b)+3])
		Valid(a)
		Has(a, 3)
		Size(a)
		for _, result := range [][]api.Span{Normal(a), Union(a, b), Meet(a, b), Minus(a, b), Union(a, a)} {
			for i := range result {
				result[i] = api.Span{From: 90, To: 91}
			}
			clear(result[len(result):cap(result)])
			if !slices.Equal(a[:len(a)+3], wholeA) || !slices.Equal(b[:len(b)+3], wholeB) {
				t.Fatal(x, a[:len(a)+3], b[:len(b)+3])
			}
		}
	}
}

// P1 and P4.2: long lists, whose spans are far apart, touch one another, or hold one another.
func TestLongLists(t *testing.T) {
	const count = 20000
	var apart, touching, holding []api.Span
	for i := range count {
		at := 7919 * i % count // all numbers below count, out of order
		apart = append(apart, api.Span{From: 2 * at, To: 2*at + 1})
		touching = append(touching, api.Span{From: 2 * at, To: 2*at + 2})
		holding = append(holding, api.Span{From: at - count, To: 3*count - at})
	}
	ordered := slices.Clone(apart)
	slices.SortFunc(ordered, func(a, b api.Span) int { return a.From - b.From })
	checkEqual(t, "apart", Normal(apart), ordered)
	checkEqual(t, "touching", Normal(touching), list(0, 2*count))
	checkEqual(t, "holding", Normal(holding), list(-count, 3*count))
	checkEqual(t, "meet", Meet(apart, holding), ordered)
	checkEqual(t, "minus", Minus(apart, touching), nil)
	if n := Size(Minus(touching, apart)); n != count {
		t.Error(n)
	}
	if !Valid(ordered) || Valid(apart) || Size(apart) != count || !Has(apart, 2*count-2) || Has(apart, 2*count-1) {
		t.Error("a long list is wrong")
	}
}
