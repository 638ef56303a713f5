package zone

import (
	"math"
	"math/rand"
	"slices"
	"testing"

	"wageoffice/api"
)

const end = api.MaxInstant + 1 // the end of the last valid stretch

// extremes are integers far from all bounds, at which sums and differences overflow.
var extremes = []int{math.MinInt, math.MinInt + 1, math.MinInt + 840, math.MinInt + 52596000, -1 << 32, 1 << 32, math.MaxInt - 52596000, math.MaxInt - 1440, math.MaxInt - 840, math.MaxInt - 1, math.MaxInt}

// sample is the zone of the chapter's examples.
func sample() api.Zone {
	return api.Zone{Name: "x", Base: 60, Changes: []api.Change{{At: 5000, Offset: 120}, {At: 20000, Offset: 60}}}
}

// climbing has as many changes as a zone can have, from the least offset to the greatest one and back, as close together as they can be.
func climbing(at int) api.Zone {
	z := api.Zone{Base: -840}
	for i := range api.MaxWeights {
		offset := -840 + 60*min(i+1, 28)
		if i >= 32 {
			offset = 840 - 60*min(i-31, 28)
		}
		z.Changes = append(z.Changes, api.Change{At: at + 2880*i, Offset: offset})
	}
	return z
}

// zones are valid zones with changes at the bounds of time, at and near local midnights, as close together as possible, without effect, and at random.
func zones() []api.Zone {
	list := []api.Zone{
		{}, {Base: 840}, {Base: -840}, {Base: 60}, {Base: -1}, sample(),
		{Changes: []api.Change{{At: 0, Offset: 60}}},
		{Changes: []api.Change{{At: 0, Offset: -60}}},
		{Base: 840, Changes: []api.Change{{At: 0, Offset: 780}, {At: api.MaxInstant, Offset: 840}}},
		{Base: -840, Changes: []api.Change{{At: 0, Offset: -780}, {At: api.MaxInstant, Offset: -840}}},
		{Changes: []api.Change{{At: api.MaxInstant, Offset: 60}}},
		{Changes: []api.Change{{At: api.MaxInstant, Offset: -60}}},
		{Base: 30, Changes: []api.Change{{At: 839, Offset: 31}, {At: 839 + 2880, Offset: 30}, {At: 839 + 2*2880, Offset: 30}, {At: api.MaxInstant - 2880, Offset: 90}, {At: api.MaxInstant, Offset: 30}}},
		// At its change the clock of these shows the beginning of a day, or a minute beside it, before or afterwards.
		{Changes: []api.Change{{At: 14400, Offset: -60}, {At: 28800, Offset: 0}, {At: 43200, Offset: 60}, {At: 57600, Offset: 0}}},
		{Changes: []api.Change{{At: 14401, Offset: -60}, {At: 28799, Offset: 0}, {At: 43201, Offset: 60}, {At: 57599, Offset: 0}}},
		{Changes: []api.Change{{At: 14430, Offset: -60}, {At: 28830, Offset: 0}, {At: 43170, Offset: 60}, {At: 57570, Offset: 0}}},
		{Base: 60, Changes: []api.Change{{At: 14400, Offset: 0}, {At: 28800, Offset: 60}, {At: 43140, Offset: 120}, {At: 57480, Offset: 60}}},
		{Base: -480, Changes: []api.Change{{At: 14880, Offset: -420}, {At: 29220, Offset: -480}, {At: 43740, Offset: -540}, {At: 58200, Offset: -480}}},
		{Base: 60, Changes: []api.Change{{At: 5000, Offset: 60}, {At: 20000, Offset: 60}}},
		climbing(0), climbing(700), climbing(end - 2880*63 - 1),
	}
	random := rand.New(rand.NewSource(1))
	for range 20 {
		z := api.Zone{Base: random.Intn(1681) - 840}
		at, offset := random.Intn(4000), z.Base
		for range random.Intn(65) {
			offset = min(840, max(-840, offset+random.Intn(121)-60))
			z.Changes = append(z.Changes, api.Change{At: at, Offset: offset})
			at += 2880 + random.Intn(1+random.Intn(20000))
		}
		list = append(list, z)
	}
	return list
}

// offsetBy is the offset as the chapter's words define it: that of the last one of all changes that are not later.
func offsetBy(z api.Zone, t int) int {
	for i := len(z.Changes) - 1; i >= 0; i-- {
		if z.Changes[i].At <= t {
			return z.Changes[i].Offset
		}
	}
	return z.Base
}

// localBy is the local day and minute of any number that is not far below 0.
func localBy(z api.Zone, t int) (int, int) {
	local := t + offsetBy(z, t) + 10*1440
	return local/1440 - 10, local % 1440
}

// inBy reports whether a local minute is in a window.
func inBy(minute int, window api.Span) bool {
	if window.From > window.To {
		return minute >= window.From || minute < window.To
	}
	return window.From <= minute && minute < window.To
}

// places are instants around all changes of a zone, and around the bounds of time.
func places(z api.Zone) []int {
	list := []int{0, api.MaxInstant, 30000000}
	for _, change := range z.Changes {
		list = append(list, change.At)
	}
	return list
}

// stretchesOf returns stretches of many lengths around the places of a zone.
func stretchesOf(z api.Zone, random *rand.Rand) [][2]int {
	list := [][2]int{{0, 0}, {0, 1}, {0, 44640}, {end - 44640, end}, {end, end}, {end - 1, end}}
	for _, place := range places(z) {
		for range 6 {
			from := min(end, max(0, place+random.Intn(4000)-2500))
			to := min(end, from+random.Intn(1+random.Intn(8000)))
			list = append(list, [2]int{from, to})
		}
	}
	return list
}

// windows are valid windows: empty ones, a whole day, usual ones, and ones over midnight.
func windows(random *rand.Rand) []api.Span {
	list := []api.Span{{From: 0, To: 0}, {From: 9, To: 9}, {From: 1440, To: 1440}, {From: 1440, To: 0}, {From: 0, To: 1440}, {From: 360, To: 1380}, {From: 1380, To: 360}, {From: 1440, To: 360}, {From: 1380, To: 0}, {From: 1439, To: 1440}, {From: 0, To: 1}, {From: 1439, To: 1}, {From: 10, To: 9}}
	for range 5 {
		list = append(list, api.Span{From: random.Intn(1441), To: random.Intn(1441)})
	}
	return list
}

// split is Split for arguments that have a result.
func split(t *testing.T, z api.Zone, from, to int) []api.Portion {
	t.Helper()
	list, err := Split(z, from, to)
	if err != api.OK {
		t.Fatal(z, from, to, err)
	}
	return list
}

// counted is Window for arguments that have a result.
func counted(t *testing.T, z api.Zone, from, to int, window api.Span) int {
	t.Helper()
	n, err := Window(z, from, to, window)
	if err != api.OK {
		t.Fatal(z, from, to, window, err)
	}
	return n
}

// P3.1: the chapter's examples.
func TestExamples(t *testing.T) {
	z := sample()
	for _, x := range [][3]int{{4999, 3, 739}, {5000, 3, 800}} {
		if day, minute, err := Local(z, x[0]); day != x[1] || minute != x[2] || err != api.OK {
			t.Error(x, day, minute, err)
		}
	}
	if list := Instants(z, 3, 750); len(list) != 0 {
		t.Error(list)
	}
	if list := Instants(z, 13, 1370); !slices.Equal(list, []int{19970, 20030}) {
		t.Error(list)
	}
	if Length(z, 3) != 1380 || Length(z, 13) != 1500 || Length(z, 14) != 1440 {
		t.Error(Length(z, 3), Length(z, 13), Length(z, 14))
	}
	if list := split(t, z, 4200, 5800); !slices.Equal(list, []api.Portion{{Day: 2, Minutes: 60}, {Day: 3, Minutes: 1380}, {Day: 4, Minutes: 160}}) {
		t.Error(list)
	}
	if n := counted(t, z, 4200, 5800, api.Span{From: 1380, To: 360}); n != 640 {
		t.Error(n)
	}
}

// invalid are zones that break one condition each, at its bound and far from it.
func invalid() []api.Zone {
	list := []api.Zone{{Base: 841}, {Base: -841}}
	for _, n := range extremes {
		list = append(list, api.Zone{Base: n}, api.Zone{Changes: []api.Change{{At: n}}}, api.Zone{Changes: []api.Change{{At: 0, Offset: n}}}, api.Zone{Changes: []api.Change{{At: 0}, {At: n}}})
	}
	for _, x := range []struct {
		base    int
		changes []api.Change
	}{
		{0, []api.Change{{At: -1}}}, {0, []api.Change{{At: end}}},
		{0, []api.Change{{At: 0, Offset: 61}}}, {0, []api.Change{{At: 0, Offset: -61}}},
		{840, []api.Change{{At: 0, Offset: 841}}}, {-840, []api.Change{{At: 0, Offset: -841}}},
		{20, []api.Change{{At: 0, Offset: 81}}}, {20, []api.Change{{At: 0, Offset: -41}}},
		{0, []api.Change{{At: 0, Offset: 60}, {At: 2880, Offset: 121}}}, {0, []api.Change{{At: 0, Offset: 60}, {At: 2880, Offset: -1}}},
		{0, []api.Change{{At: 9}, {At: 2888}}}, {0, []api.Change{{At: 9}, {At: 9}}}, {0, []api.Change{{At: 9}, {At: 8}}}, {0, []api.Change{{At: 5760}, {At: 0}}},
		{0, []api.Change{{At: 0}, {At: 2880}, {At: 5759}}}, {0, []api.Change{{At: 0}, {At: 2880}, {At: 0}}},
		{0, []api.Change{{At: end - 2880}, {At: end}}},
		{0, append(climbing(0).Changes, api.Change{At: 30000000, Offset: -840})},
	} {
		list = append(list, api.Zone{Base: x.base, Changes: x.changes})
	}
	many := climbing(0)
	many.Changes = append(many.Changes, api.Change{At: 30000000, Offset: -840})
	return append(list, many)
}

// P3.1, C1: every condition of a valid zone, at both sides of its bound.
func TestValid(t *testing.T) {
	for _, z := range zones() {
		if !Valid(z) {
			t.Error("not valid:", z)
		}
	}
	for _, z := range []api.Zone{
		{Name: "", Changes: []api.Change{}},
		{Name: "a name of any length", Changes: []api.Change{{At: 9}, {At: 2889}}},
		{Base: 780, Changes: []api.Change{{At: 0, Offset: 840}}},
		{Base: -780, Changes: []api.Change{{At: 0, Offset: -840}}},
		{Base: 20, Changes: []api.Change{{At: 0, Offset: 80}, {At: 2880, Offset: 20}, {At: 5760, Offset: -40}}},
		{Changes: []api.Change{{At: end - 2881}, {At: end - 1}}},
	} {
		if !Valid(z) {
			t.Error("not valid:", z)
		}
	}
	for _, z := range invalid() {
		if Valid(z) {
			t.Error("valid:", z)
		}
	}
}

// P3.1, C1: the offset at any number, also outside of the instants.
func TestOffset(t *testing.T) {
	for _, z := range zones() {
		for _, place := range places(z) {
			for _, n := range []int{place - 3000, place - 1, place, place + 1, place + 1440} {
				if got := Offset(z, n); got != offsetBy(z, n) {
					t.Fatal(z, n, got)
				}
			}
		}
		for _, n := range append(extremes, -1, -840, end, end+840) {
			if got := Offset(z, n); got != offsetBy(z, n) {
				t.Fatal(z, n, got)
			}
		}
	}
	if z := sample(); Offset(z, math.MinInt) != 60 || Offset(z, 4999) != 60 || Offset(z, 5000) != 120 || Offset(z, 19999) != 120 || Offset(z, 20000) != 60 || Offset(z, math.MaxInt) != 60 {
		t.Error("the offsets of the sample are wrong")
	}
}

// P3.1 and P1: every function with a zone that is not valid.
func TestInvalidZones(t *testing.T) {
	for _, z := range invalid() {
		for _, n := range append(extremes, -1, 0, 5000, api.MaxInstant, end) {
			if Offset(z, n) != 0 {
				t.Error(z, n, Offset(z, n))
			}
			if day, minute, err := Local(z, n); day != 0 || minute != 0 || err != api.ErrArg {
				t.Error(z, n, day, minute, err)
			}
			if list := Instants(z, n, 0); len(list) != 0 {
				t.Error(z, n, list)
			}
			if list := Instants(z, 20, n); len(list) != 0 {
				t.Error(z, n, list)
			}
			if Length(z, n) != 0 {
				t.Error(z, n, Length(z, n))
			}
			if list, err := Split(z, 0, n); len(list) != 0 || err != api.ErrArg {
				t.Error(z, n, list, err)
			}
			if count, err := Window(z, 0, n, api.Span{From: 0, To: 1440}); count != 0 || err != api.ErrArg {
				t.Error(z, n, count, err)
			}
		}
		if Length(z, 20) != 0 || len(Instants(z, 20, 20)) != 0 {
			t.Error(z, Length(z, 20), Instants(z, 20, 20))
		}
	}
}

// P3.1, C2: the local times around every change and at the bounds of time, and its errors.
func TestLocal(t *testing.T) {
	for _, z := range zones() {
		for _, place := range places(z) {
			for n := place - 1500; n <= place+1500; n += 7 {
				day, minute, err := Local(z, n)
				wantDay, wantMinute := localBy(z, n)
				want := api.OK
				if n < 0 || n > api.MaxInstant {
					want = api.ErrArg
				} else if wantDay < 0 || wantDay > api.MaxDay {
					want = api.ErrDate
				}
				if want != api.OK {
					wantDay, wantMinute = 0, 0
				}
				if day != wantDay || minute != wantMinute || err != want {
					t.Fatal(z, n, day, minute, err)
				}
			}
		}
		for _, n := range append(extremes, -1, end) {
			if day, minute, err := Local(z, n); day != 0 || minute != 0 || err != api.ErrArg {
				t.Error(z, n, day, minute, err)
			}
		}
	}
	for _, x := range []struct {
		base, utc, day, minute int
		err                    api.Errno
	}{
		{-1, 0, 0, 0, api.ErrDate}, {-1, 1, 0, 0, api.OK}, {-840, 839, 0, 0, api.ErrDate}, {-840, 840, 0, 0, api.OK}, {-840, api.MaxInstant, 36524, 599, api.OK},
		{1, api.MaxInstant, 0, 0, api.ErrDate}, {1, api.MaxInstant - 1, 36524, 1439, api.OK}, {840, api.MaxInstant - 839, 0, 0, api.ErrDate}, {840, api.MaxInstant - 840, 36524, 1439, api.OK}, {840, 0, 0, 840, api.OK},
		{0, 0, 0, 0, api.OK}, {0, api.MaxInstant, 36524, 1439, api.OK},
	} {
		if day, minute, err := Local(api.Zone{Base: x.base}, x.utc); day != x.day || minute != x.minute || err != x.err {
			t.Error(x, day, minute, err)
		}
	}
}

// P3.1, C3: the instants of all local times around every change and at the bounds of time are those that a search of all instants nearby finds.
func TestInstants(t *testing.T) {
	none := api.Zone{}
	for _, z := range zones() {
		for _, place := range places(z) {
			var found [3][1440][]int // by the days before and after a place, and by minutes
			middle, _ := localBy(z, place)
			for n := max(0, place-4400); n < min(end, place+4400); n++ {
				day, minute := localBy(z, n)
				if middle-1 <= day && day <= middle+1 {
					list := &found[day-middle+1][minute]
					*list = append(*list, n)
				}
			}
			for day := middle - 1; day <= middle+1; day++ {
				for minute := range 1440 {
					want := found[day-middle+1][minute]
					if day < 0 || day > api.MaxDay {
						want = nil
					}
					if list := Instants(z, day, minute); !slices.Equal(list, want) {
						t.Fatal(z, day, minute, list, want)
					}
				}
			}
		}
		for _, x := range [][2]int{{-1, 0}, {-1, 1439}, {36525, 0}, {36525, 1439}, {0, -1}, {0, 1440}, {20, -1}, {20, 1440}, {36524, 1440}} {
			if list := Instants(z, x[0], x[1]); len(list) != 0 {
				t.Error(z, x, list)
			}
		}
		for _, n := range extremes {
			if len(Instants(z, n, 0)) != 0 || len(Instants(z, 20, n)) != 0 || len(Instants(z, n, n)) != 0 {
				t.Error(z, n)
			}
		}
	}
	if list := Instants(none, 0, 0); !slices.Equal(list, []int{0}) {
		t.Error(list)
	}
	if list := Instants(none, api.MaxDay, 1439); !slices.Equal(list, []int{api.MaxInstant}) {
		t.Error(list)
	}
}

// P3.1, C4 and P3.4: the lengths of all days, compared with a walk through all instants.
func TestEveryLength(t *testing.T) {
	for _, z := range []api.Zone{{Base: 840}, {Base: -840}, sample(), climbing(1000000), climbing(end - 2880*63 - 1)} {
		lengths := make([]int, api.MaxDay+3) // those of the days from -1 to MaxDay + 1
		next, offset := 0, z.Base
		for n := range end {
			if next < len(z.Changes) && z.Changes[next].At == n {
				offset = z.Changes[next].Offset
				next++
			}
			lengths[(n+offset+1440)/1440]++
		}
		for day := -1; day <= api.MaxDay+1; day++ {
			want := lengths[day+1]
			if day < 0 || day > api.MaxDay {
				want = 0
			}
			got := Length(z, day)
			if got != want {
				t.Fatal(z, day, got, want)
			}
			if 2 <= day && day <= api.MaxDay-2 && (got < 1380 || got > 1500) {
				t.Fatal(z, day, got)
			}
		}
	}
}

// P3.1, C4 and P3.4: around every change, and at the bounds of time, a day has as many instants as its local minutes have.
func TestLength(t *testing.T) {
	for _, z := range zones() {
		for _, place := range places(z) {
			middle, _ := localBy(z, place)
			for day := max(0, middle-2); day <= min(api.MaxDay, middle+2); day++ {
				sum := 0
				for minute := range 1440 {
					sum += len(Instants(z, day, minute))
				}
				got := Length(z, day)
				if got != sum {
					t.Fatal(z, day, got, sum)
				}
				if 2 <= day && day <= api.MaxDay-2 && (got < 1380 || got > 1500) {
					t.Fatal(z, day, got)
				}
			}
		}
		for _, n := range append(extremes, -1, api.MaxDay+1) {
			if Length(z, n) != 0 {
				t.Error(z, n, Length(z, n))
			}
		}
	}
	for _, x := range [][3]int{{840, 0, 600}, {840, 1, 1440}, {840, api.MaxDay, 1440}, {-840, 0, 1440}, {-840, api.MaxDay, 600}, {-840, api.MaxDay - 1, 1440}, {0, 0, 1440}, {0, api.MaxDay, 1440}} {
		if got := Length(api.Zone{Base: x[0]}, x[1]); got != x[2] {
			t.Error(x, got)
		}
	}
}

// P3.1, C5 and P3.3: the portions of many stretches are those that a walk through the stretch counts, and they add up to its length.
func TestSplit(t *testing.T) {
	random := rand.New(rand.NewSource(2))
	for _, z := range zones() {
		for _, x := range stretchesOf(z, random) {
			counts, sum, want := map[int]int{}, 0, api.OK
			for n := x[0]; n < x[1]; n++ {
				day, _ := localBy(z, n)
				counts[day]++
				if day < 0 || day > api.MaxDay {
					want = api.ErrDate
				}
			}
			list, err := Split(z, x[0], x[1])
			if err != want || err != api.OK && len(list) != 0 || err == api.OK && len(list) != len(counts) {
				t.Fatal(z, x, list, err, counts)
			}
			for i, portion := range list {
				sum += portion.Minutes
				if portion.Minutes != counts[portion.Day] || i > 0 && portion.Day <= list[i-1].Day {
					t.Fatal(z, x, list, counts)
				}
			}
			if err == api.OK && sum != x[1]-x[0] {
				t.Fatal(z, x, list)
			}
		}
	}
}

// P3.3: the parts between changes follow one another without a gap, none of them is empty, and in each one there is one offset; so the portions made of them divide the stretch.
func TestStretches(t *testing.T) {
	random := rand.New(rand.NewSource(6))
	for _, z := range zones() {
		list := stretchesOf(z, random)
		for _, change := range z.Changes {
			list = append(list, [2]int{change.At, end}, [2]int{0, change.At}, [2]int{change.At, change.At})
		}
		for _, x := range list {
			next := x[0]
			for part, offset := range stretches(z, x[0], x[1]) {
				if part.From != next || part.To <= part.From || offset != offsetBy(z, part.From) || offset != offsetBy(z, part.To-1) {
					t.Fatal(z, x, part, offset)
				}
				next = part.To
			}
			if next != x[1] {
				t.Fatal(z, x, next)
			}
		}
	}
}

// P3.1, C5: days that are met again after a clock was put back at midnight, and short days, lengths and bounds.
func TestSplitAtMidnight(t *testing.T) {
	back := api.Zone{Changes: []api.Change{{At: 14430, Offset: -60}, {At: 28800, Offset: 0}}}
	for _, x := range []struct {
		from, to int
		want     []api.Portion
	}{
		{14400, 14440, []api.Portion{{Day: 9, Minutes: 10}, {Day: 10, Minutes: 30}}},
		{14390, 14460, []api.Portion{{Day: 9, Minutes: 40}, {Day: 10, Minutes: 30}}},
		{14390, 14461, []api.Portion{{Day: 9, Minutes: 40}, {Day: 10, Minutes: 31}}},
		{14429, 14430, []api.Portion{{Day: 10, Minutes: 1}}},
		{14430, 14431, []api.Portion{{Day: 9, Minutes: 1}}},
		{14459, 14460, []api.Portion{{Day: 9, Minutes: 1}}},
		{14460, 14461, []api.Portion{{Day: 10, Minutes: 1}}},
		{14490, 14491, []api.Portion{{Day: 10, Minutes: 1}}},
		{12960, 15900, []api.Portion{{Day: 9, Minutes: 1470}, {Day: 10, Minutes: 1470}}},
		{28799, 28801, []api.Portion{{Day: 19, Minutes: 1}, {Day: 20, Minutes: 1}}},
		{14400, 14400, nil}, {0, 0, nil}, {end, end, nil},
	} {
		if list := split(t, back, x.from, x.to); !slices.Equal(list, x.want) {
			t.Error(x, list)
		}
	}
}

// P3.1 and P1, C5 and C6: the errors of stretches, windows and days, in their order.
func TestStretchErrors(t *testing.T) {
	late, early := api.Zone{Base: 1}, api.Zone{Base: -1}
	for _, x := range []struct {
		z             api.Zone
		from, to      int
		split, window api.Errno
	}{
		{sample(), 7, 6, api.ErrArg, api.ErrArg}, {sample(), -1, 6, api.ErrArg, api.ErrArg}, {sample(), -2, -1, api.ErrArg, api.ErrArg}, {sample(), -1, 44640, api.ErrArg, api.ErrArg}, {sample(), end, end + 1, api.ErrArg, api.ErrArg}, {sample(), end + 1, end + 1, api.ErrArg, api.ErrArg}, {sample(), 0, end + 1, api.ErrArg, api.ErrArg},
		{sample(), 0, 44640, api.OK, api.OK}, {sample(), 0, 44641, api.ErrLimit, api.ErrLimit}, {sample(), 0, end, api.ErrLimit, api.ErrLimit}, {sample(), 5000, 49640, api.OK, api.OK}, {sample(), 5000, 49641, api.ErrLimit, api.ErrLimit},
		{late, end - 1, end, api.ErrDate, api.OK}, {late, end - 2, end - 1, api.OK, api.OK}, {late, end - 44640, end, api.ErrDate, api.OK}, {late, end - 44641, end, api.ErrLimit, api.ErrLimit}, {late, end, end, api.OK, api.OK},
		{early, 0, 1, api.ErrDate, api.OK}, {early, 1, 2, api.OK, api.OK}, {early, 0, 44640, api.ErrDate, api.OK}, {early, 0, 44641, api.ErrLimit, api.ErrLimit}, {early, 0, 0, api.OK, api.OK},
	} {
		if list, err := Split(x.z, x.from, x.to); err != x.split || err != api.OK && len(list) != 0 {
			t.Error(x, list, err)
		}
		want := x.to - x.from
		if x.window != api.OK {
			want = 0
		}
		if n, err := Window(x.z, x.from, x.to, api.Span{From: 0, To: 1440}); n != want || err != x.window {
			t.Error(x, n, err)
		}
		for _, window := range []api.Span{{From: -1, To: 5}, {From: 5, To: -1}, {From: 1441, To: 5}, {From: 5, To: 1441}, {From: 1441, To: 1441}, {From: math.MinInt, To: math.MaxInt}, {From: math.MaxInt, To: math.MinInt}} {
			if n, err := Window(x.z, x.from, x.to, window); n != 0 || err != api.ErrArg {
				t.Error(x, window, n, err)
			}
		}
	}
	for _, n := range extremes {
		for _, x := range [][2]int{{n, 0}, {0, n}, {n, n}, {n, end}, {end, n}, {n, math.MaxInt}, {math.MinInt, n}} {
			if list, err := Split(sample(), x[0], x[1]); len(list) != 0 || err != api.ErrArg {
				t.Error(x, list, err)
			}
			if count, err := Window(sample(), x[0], x[1], api.Span{From: 0, To: 1440}); count != 0 || err != api.ErrArg {
				t.Error(x, count, err)
			}
		}
	}
}

// P3.1, C6: the numbers of instants in windows are those that a walk through the stretch counts.
func TestWindow(t *testing.T) {
	random := rand.New(rand.NewSource(3))
	for _, z := range zones() {
		for _, x := range stretchesOf(z, random) {
			var minutes [1440]int
			for n := x[0]; n < x[1]; n++ {
				_, minute := localBy(z, n)
				minutes[minute]++
			}
			for _, window := range windows(random) {
				want := 0
				for minute, n := range minutes {
					if inBy(minute, window) {
						want += n
					}
				}
				if n := counted(t, z, x[0], x[1], window); n != want {
					t.Fatal(z, x, window, n, want)
				}
			}
		}
	}
}

// P3.2: instants and local times are inverse to each other.
func TestInverse(t *testing.T) {
	for _, z := range zones() {
		for _, place := range places(z) {
			for n := max(0, place-1500); n <= min(api.MaxInstant, place+1500); n++ {
				day, minute, err := Local(z, n)
				if err != api.OK {
					continue
				}
				list := Instants(z, day, minute)
				if !slices.Contains(list, n) || len(list) > 2 || len(list) == 2 && list[0] >= list[1] {
					t.Fatal(z, n, day, minute, list)
				}
				for _, utc := range list {
					if d, m, err := Local(z, utc); d != day || m != minute || err != api.OK {
						t.Fatal(z, n, utc, d, m, err)
					}
				}
			}
		}
	}
}

// P3.3: the portions of two successive stretches, added day by day, are those of the whole stretch.
func TestDivision(t *testing.T) {
	random := rand.New(rand.NewSource(4))
	for _, z := range zones() {
		for _, x := range stretchesOf(z, random) {
			whole, err := Split(z, x[0], x[1])
			if err != api.OK {
				continue
			}
			for range 5 {
				middle := x[0] + random.Intn(x[1]-x[0]+1)
				sums := map[int]int{}
				for _, portion := range append(split(t, z, x[0], middle), split(t, z, middle, x[1])...) {
					sums[portion.Day] += portion.Minutes
				}
				if len(sums) != len(whole) {
					t.Fatal(z, x, middle, sums, whole)
				}
				for _, portion := range whole {
					if sums[portion.Day] != portion.Minutes {
						t.Fatal(z, x, middle, sums, whole)
					}
				}
			}
		}
	}
}

// P3.5: a window and its complement divide a stretch, a whole day contains all of it, and windows of successive stretches add up.
func TestWindowsAddUp(t *testing.T) {
	random := rand.New(rand.NewSource(5))
	for _, z := range zones() {
		for _, x := range stretchesOf(z, random) {
			length := x[1] - x[0]
			if n := counted(t, z, x[0], x[1], api.Span{From: 0, To: 1440}); n != length {
				t.Fatal(z, x, n)
			}
			for _, window := range windows(random) {
				n := counted(t, z, x[0], x[1], window)
				complement := api.Span{From: window.To, To: window.From}
				if window.From != window.To {
					if m := counted(t, z, x[0], x[1], complement); n+m != length {
						t.Fatal(z, x, window, n, m)
					}
				} else if n != 0 {
					t.Fatal(z, x, window, n)
				}
				middle := x[0] + random.Intn(length+1)
				if m := counted(t, z, x[0], middle, window) + counted(t, z, middle, x[1], window); m != n {
					t.Fatal(z, x, middle, window, n, m)
				}
			}
		}
	}
}

// P3.6: in a zone without changes, or with changes of no effect, local time is UTC plus Base, and days have 1440 minutes.
func TestWithoutChanges(t *testing.T) {
	for base := -840; base <= 840; base += 21 {
		for _, z := range []api.Zone{{Base: base}, {Base: base, Changes: []api.Change{{At: 0, Offset: base}, {At: 5000, Offset: base}, {At: api.MaxInstant, Offset: base}}}} {
			for day := 1; day < api.MaxDay; day += 1 + day%29 {
				if Length(z, day) != 1440 {
					t.Fatal(z, day, Length(z, day))
				}
			}
			if first, last := Length(z, 0), Length(z, api.MaxDay); first != 1440-max(base, 0) || last != 1440+min(base, 0) {
				t.Fatal(z, first, last)
			}
			for n := 840; n <= api.MaxInstant-840; n += 9973 {
				day, minute, err := Local(z, n)
				if 1440*day+minute != n+base || minute < 0 || minute > 1439 || err != api.OK {
					t.Fatal(z, n, day, minute, err)
				}
				if list := Instants(z, day, minute); !slices.Equal(list, []int{n}) {
					t.Fatal(z, n, list)
				}
			}
		}
	}
}

// P3.7: if all offsets grow by one number, local times do so, too.
func TestShifting(t *testing.T) {
	for _, z := range zones() {
		for _, more := range []int{-1000, -61, -1, 1, 17, 60, 600} {
			other := api.Zone{Base: z.Base + more}
			for _, change := range z.Changes {
				other.Changes = append(other.Changes, api.Change{At: change.At, Offset: change.Offset + more})
			}
			if !Valid(other) {
				continue
			}
			for _, place := range places(z) {
				for n := max(0, place-1500); n <= min(api.MaxInstant, place+1500); n += 11 {
					day, minute, err := Local(z, n)
					otherDay, otherMinute, otherErr := Local(other, n)
					if err == api.OK && otherErr == api.OK && 1440*otherDay+otherMinute != 1440*day+minute+more {
						t.Fatal(z, more, n, day, minute, otherDay, otherMinute)
					}
				}
			}
		}
	}
}

// P3.8: local time increases by one minute, except where the offset changes.
func TestRunning(t *testing.T) {
	for _, z := range zones() {
		for _, place := range places(z) {
			for n := max(0, place-1500); n < min(api.MaxInstant, place+1500); n++ {
				day, minute, err := Local(z, n)
				nextDay, nextMinute, nextErr := Local(z, n+1)
				if err != api.OK || nextErr != api.OK {
					continue
				}
				step := 1440*(nextDay-day) + nextMinute - minute
				if step != 1+offsetBy(z, n+1)-offsetBy(z, n) {
					t.Fatal(z, n, day, minute, nextDay, nextMinute)
				}
			}
		}
	}
}

// The document's rules: arguments are not modified, and lists that were returned are not shared with later ones.
func TestArgumentsAndResults(t *testing.T) {
	z := sample()
	changes := z.Changes
	instants, portions := Instants(z, 13, 1370), split(t, z, 4200, 5800)
	againInstants, againPortions := Instants(z, 13, 1370), split(t, z, 4200, 5800)
	clear(instants)
	clear(portions)
	if !slices.Equal(againInstants, []int{19970, 20030}) || againPortions[0] != (api.Portion{Day: 2, Minutes: 60}) {
		t.Error(againInstants, againPortions)
	}
	if !slices.Equal(changes, sample().Changes) {
		t.Error(changes)
	}
}
