package calendar

import (
	"math"
	"regexp"
	"strings"
	"testing"
	"time"

	"wageoffice/api"
)

// notDays and notMonths are the integers around and far from the bounds.
var (
	notDays   = []int{math.MinInt, math.MinInt + 1, math.MinInt + api.MaxDay, -api.MaxDay, -366, -2, -1, api.MaxDay + 1, api.MaxDay + 2, 2 * api.MaxDay, math.MaxInt - 5, math.MaxInt - 1, math.MaxInt}
	notMonths = []int{math.MinInt, math.MinInt + 1, math.MinInt + api.MaxMonth, -api.MaxMonth, -12, -2, -1, api.MaxMonth + 1, api.MaxMonth + 2, api.MaxDay, math.MaxInt - 46, math.MaxInt - 1, math.MaxInt}
)

// reference is the date of a day as package time has it, which shares nothing with this one.
func reference(day int) time.Time {
	return time.Date(2000, time.January, 1+day, 0, 0, 0, 0, time.UTC)
}

// numbered is Day for dates that exist.
func numbered(t *testing.T, year, month, day int) int {
	t.Helper()
	n, err := Day(year, month, day)
	if err != api.OK {
		t.Fatalf("Day(%d, %d, %d): %v", year, month, day, err)
	}
	return n
}

// later is Later for arguments that have a result.
func later(t *testing.T, day, months int) int {
	t.Helper()
	n, err := Later(day, months)
	if err != api.OK {
		t.Fatalf("Later(%d, %d): %v", day, months, err)
	}
	return n
}

// P2.1: the chapter's examples.
func TestExamples(t *testing.T) {
	for _, x := range []struct {
		year, month, day, want int
		err                    api.Errno
	}{{2000, 1, 1, 0, api.OK}, {2000, 3, 1, 60, api.OK}, {2024, 2, 29, 8825, api.OK}, {2023, 2, 29, 0, api.ErrDate}} {
		if n, err := Day(x.year, x.month, x.day); n != x.want || err != x.err {
			t.Error(x, n, err)
		}
	}
	if y, m, d := Date(366); y != 2001 || m != 1 || d != 1 {
		t.Error(y, m, d)
	}
	if Weekday(0) != 6 || Weekday(2) != 1 || Month(60) != 2 || First(2) != 60 || Length(1) != 29 {
		t.Error(Weekday(0), Weekday(2), Month(60), First(2), Length(1))
	}
	if later(t, 30, 1) != 59 || later(t, 59, 12) != 424 {
		t.Error(later(t, 30, 1), later(t, 59, 12))
	}
	if n, err := Later(0, -1); n != 0 || err != api.ErrDate {
		t.Error(n, err)
	}
	for _, x := range []struct {
		text string
		want int
		err  api.Errno
	}{{"2000-02-29", 59, api.OK}, {"2000-2-29", 0, api.ErrFormat}, {"2001-02-29", 0, api.ErrDate}} {
		if n, err := Parse(x.text); n != x.want || err != x.err {
			t.Error(x, n, err)
		}
	}
	if Text(59) != "2000-02-29" {
		t.Error(Text(59))
	}
}

// P2.1, B1 to B4, B6 and B7: every day agrees with the calendar of package time.
func TestEveryDay(t *testing.T) {
	for day := range api.MaxDay + 1 {
		want := reference(day)
		y, m, d := Date(day)
		if y != want.Year() || m != int(want.Month()) || d != want.Day() {
			t.Fatal(day, y, m, d, want)
		}
		if n, err := Day(want.Year(), int(want.Month()), want.Day()); n != day || err != api.OK {
			t.Fatal(day, n, err)
		}
		if Weekday(day) != (int(want.Weekday())+6)%7+1 {
			t.Fatal(day, Weekday(day), want.Weekday())
		}
		if Month(day) != 12*(want.Year()-2000)+int(want.Month())-1 {
			t.Fatal(day, Month(day), want)
		}
		text := want.Format(time.DateOnly)
		if Text(day) != text {
			t.Fatal(day, Text(day), text)
		}
		if n, err := Parse(text); n != day || err != api.OK {
			t.Fatal(day, n, err)
		}
	}
	if last := reference(api.MaxDay); last.Year() != 2099 || last.YearDay() != 365 {
		t.Error("the last day is not the last one of 2099")
	}
}

// P2.1, B4: every month agrees with the calendar of package time.
func TestEveryMonth(t *testing.T) {
	start := reference(0)
	for month := range api.MaxMonth + 1 {
		first := time.Date(2000, time.Month(1+month), 1, 0, 0, 0, 0, time.UTC)
		next := time.Date(2000, time.Month(2+month), 1, 0, 0, 0, 0, time.UTC)
		if want := int(first.Sub(start).Hours()) / 24; First(month) != want {
			t.Fatal(month, First(month), want)
		}
		if want := int(next.Sub(first).Hours()) / 24; Length(month) != want {
			t.Fatal(month, Length(month), want)
		}
	}
}

// P2.1, B1: dates that do not exist, among them all of those near the years with a result.
func TestNoSuchDate(t *testing.T) {
	refuse := func(year, month, day int) {
		if n, err := Day(year, month, day); n != 0 || err != api.ErrDate {
			t.Error(year, month, day, n, err)
		}
	}
	for year := 1996; year <= 2104; year++ {
		for month := -1; month <= 14; month++ {
			for day := -1; day <= 33; day++ {
				date := time.Date(year, time.Month(month), day, 0, 0, 0, 0, time.UTC)
				exists := date.Year() == year && int(date.Month()) == month && date.Day() == day
				if !exists || year < 2000 || year > 2099 {
					refuse(year, month, day)
				}
			}
		}
	}
	for _, n := range []int{math.MinInt, math.MinInt + 1, -2000, -1, 0, 100, math.MaxInt - 1, math.MaxInt} {
		refuse(n, 1, 1)
		refuse(2000, n, 1)
		if n != 1 {
			refuse(2000, 1, n)
		}
		refuse(n, n, n)
	}
	refuse(2000, 1, 1<<32+1)
	refuse(2000+1<<32, 1, 1)
}

// P2.1 and P1, B2 to B6: numbers that are neither days nor months.
func TestNoDayNoMonth(t *testing.T) {
	for _, n := range notDays {
		if y, m, d := Date(n); y != 0 || m != 0 || d != 0 {
			t.Error(n, y, m, d)
		}
		if Weekday(n) != 0 || Month(n) != -1 || Text(n) != "" {
			t.Error(n, Weekday(n), Month(n), Text(n))
		}
		for _, months := range []int{0, 1, -1, math.MaxInt, math.MinInt, -n} {
			if d, err := Later(n, months); d != 0 || err != api.ErrDate {
				t.Error(n, months, d, err)
			}
		}
	}
	for _, n := range notMonths {
		if First(n) != -1 || Length(n) != 0 {
			t.Error(n, First(n), Length(n))
		}
	}
}

// P2.1, B5: the last day of months that are too short, and the bounds of months.
func TestLater(t *testing.T) {
	for _, x := range []struct {
		from   [3]int
		months int
		to     [3]int
	}{
		{[3]int{2000, 1, 31}, 0, [3]int{2000, 1, 31}},
		{[3]int{2000, 1, 31}, 1, [3]int{2000, 2, 29}},
		{[3]int{2001, 1, 31}, 1, [3]int{2001, 2, 28}},
		{[3]int{2001, 1, 29}, 1, [3]int{2001, 2, 28}},
		{[3]int{2001, 1, 28}, 1, [3]int{2001, 2, 28}},
		{[3]int{2001, 3, 31}, -1, [3]int{2001, 2, 28}},
		{[3]int{2004, 3, 30}, -1, [3]int{2004, 2, 29}},
		{[3]int{2004, 2, 29}, 12, [3]int{2005, 2, 28}},
		{[3]int{2004, 2, 29}, 48, [3]int{2008, 2, 29}},
		{[3]int{2004, 2, 29}, -48, [3]int{2000, 2, 29}},
		{[3]int{2004, 2, 29}, 1, [3]int{2004, 3, 29}},
		{[3]int{2024, 5, 31}, 1, [3]int{2024, 6, 30}},
		{[3]int{2024, 12, 31}, 2, [3]int{2025, 2, 28}},
		{[3]int{2024, 1, 15}, -1, [3]int{2023, 12, 15}},
		{[3]int{2000, 1, 1}, 1199, [3]int{2099, 12, 1}},
		{[3]int{2099, 12, 31}, -1199, [3]int{2000, 1, 31}},
		{[3]int{2099, 12, 31}, -1198, [3]int{2000, 2, 29}},
	} {
		from, to := numbered(t, x.from[0], x.from[1], x.from[2]), numbered(t, x.to[0], x.to[1], x.to[2])
		if got := later(t, from, x.months); got != to {
			t.Error(x, Text(got))
		}
	}
	for _, x := range [][2]int{
		{0, -1}, {0, 1200}, {30, -1}, {31, -2}, {31, 1199}, {api.MaxDay, 1}, {api.MaxDay, -1200}, {8825, 911}, {8825, -290},
		{0, math.MaxInt}, {0, math.MinInt}, {api.MaxDay, math.MaxInt}, {api.MaxDay, math.MinInt}, {8825, math.MaxInt - 200}, {8825, math.MinInt + 200}, {8825, 1 << 32}, {8825, -1 << 32},
	} {
		if n, err := Later(x[0], x[1]); n != 0 || err != api.ErrDate {
			t.Error(x, n, err)
		}
	}
}

// P2.1, B7: the form is checked before the date, byte by byte.
func TestParseErrors(t *testing.T) {
	for _, text := range []string{
		"", "-", "2000", "2000-01", "2000-01-", "2000-01-1", "2000-1-01", "2000-01-011", "02000-01-01", " 2000-01-01", "2000-01-01 ", "2000-01-01\n", "\n2000-01-0",
		"2000/01/01", "2000-01/01", "2000/01-01", "20000-1-01", "2000-0101-", "200-001-01", "-200-01-01", "+200-01-01", "2000--1-01", "2000-+1-01", "2000-01--1", "2000-01- 1", "2000-01-0a", "2000-0x-01", "2e00-01-01",
		"2000–01–01", "2000–01", "２０-01", "٢٠٠٠-1", "2000-01-\xff\xfe", "\x00\x00\x00\x00-\x00\x00-\x00\x00", "2000-01-0\x00", "2001-02-2x", "9999-99-9", "----------", strings.Repeat("2000-01-01", 1000),
	} {
		if n, err := Parse(text); n != 0 || err != api.ErrFormat {
			t.Errorf("%q: %d, %v", text, n, err)
		}
	}
	for _, text := range []string{
		"1999-12-31", "2100-01-01", "0000-00-00", "9999-99-99", "0000-01-01", "0001-01-01", "9999-12-31", "2000-00-01", "2000-13-01", "2000-01-00", "2000-01-32", "2001-02-29", "2000-02-30", "2099-02-29", "2024-04-31", "2024-06-31", "2024-09-31", "2024-11-31", "2024-12-32",
	} {
		if n, err := Parse(text); n != 0 || err != api.ErrDate {
			t.Errorf("%q: %d, %v", text, n, err)
		}
	}
}

// P2.1 and P2.2, B7: with any byte at any place of a text, Parse agrees with the form and with package time, and every text that it takes is the text of its day.
func TestParseAllBytes(t *testing.T) {
	form := regexp.MustCompile(`^[0-9]{4}-[0-9]{2}-[0-9]{2}$`)
	for _, base := range []string{"2000-02-29", "2024-11-30", "2099-12-31", "1999-12-31"} {
		for place := range len(base) {
			for b := range 256 {
				text := base[:place] + string([]byte{byte(b)}) + base[place+1:]
				date, bad := time.Parse(time.DateOnly, text)
				want := api.OK
				if !form.MatchString(text) {
					want = api.ErrFormat
				} else if bad != nil || date.Year() < 2000 || date.Year() > 2099 {
					want = api.ErrDate
				}
				n, err := Parse(text)
				if err != want || err != api.OK && n != 0 || err == api.OK && Text(n) != text {
					t.Fatalf("%q: %d, %v; want %v", text, n, err, want)
				}
			}
		}
	}
}

// P2.2: Day and Date are inverse to each other, and so are Text and Parse, in both directions.
func TestInverse(t *testing.T) {
	for day := range api.MaxDay + 1 {
		y, m, d := Date(day)
		if n, err := Day(y, m, d); n != day || err != api.OK {
			t.Fatal(day, n, err)
		}
		if n, err := Parse(Text(day)); n != day || err != api.OK {
			t.Fatal(day, n, err)
		}
	}
	dates := 0
	for year := 1999; year <= 2100; year++ {
		for month := range 14 {
			for day := range 33 {
				n, err := Day(year, month, day)
				if err != api.OK {
					continue
				}
				dates++
				if y, m, d := Date(n); y != year || m != month || d != day {
					t.Fatal(year, month, day, n, y, m, d)
				}
			}
		}
	}
	if dates != api.MaxDay+1 {
		t.Error(dates)
	}
}

// P2.3: the day after each day.
func TestNextDay(t *testing.T) {
	for day := range api.MaxDay {
		y, m, d := Date(day)
		nextY, nextM, nextD := Date(day + 1)
		if d < Length(Month(day)) {
			if nextY != y || nextM != m || nextD != d+1 || Month(day+1) != Month(day) {
				t.Fatal(day, y, m, d, nextY, nextM, nextD)
			}
		} else if nextD != 1 || 12*nextY+nextM != 12*y+m+1 || Month(day+1) != Month(day)+1 || First(Month(day)+1) != day+1 {
			t.Fatal(day, y, m, d, nextY, nextM, nextD)
		}
	}
}

// P2.4: weekdays succeed one another, and Monday follows Sunday.
func TestWeeks(t *testing.T) {
	for day := range api.MaxDay {
		today, tomorrow := Weekday(day), Weekday(day+1)
		if today < 1 || today > 7 || today < 7 && tomorrow != today+1 || today == 7 && tomorrow != 1 {
			t.Fatal(day, today, tomorrow)
		}
	}
	for _, x := range [][4]int{{2024, 2, 29, 4}, {2026, 11, 20, 5}, {2000, 1, 3, 1}, {2099, 12, 31, 4}} {
		if n := numbered(t, x[0], x[1], x[2]); Weekday(n) != x[3] {
			t.Error(x, Weekday(n))
		}
	}
}

// P2.5: a day belongs to exactly the one month whose days include it, and 48 months have 1461 days.
func TestMonths(t *testing.T) {
	var owners [api.MaxDay + 1][]int
	for month := range api.MaxMonth + 1 {
		for day := First(month); day < First(month)+Length(month); day++ {
			owners[day] = append(owners[day], month)
		}
	}
	for day, list := range owners {
		if len(list) != 1 || list[0] != Month(day) {
			t.Fatal(day, list, Month(day))
		}
	}
	for month := range api.MaxMonth + 2 - 48 {
		sum := 0
		for i := range 48 {
			sum += Length(month + i)
		}
		if sum != 1461 {
			t.Fatal(month, sum)
		}
	}
}

// P2.6: the month and the day of the month of a later day, for every number of months that has a result.
func TestLaterMonths(t *testing.T) {
	for day := 0; day <= api.MaxDay; day += 37 {
		_, _, dayOfMonth := Date(day)
		for months := -api.MaxMonth - 1; months <= api.MaxMonth+1; months++ {
			n, err := Later(day, months)
			month := Month(day) + months
			if month < 0 || month > api.MaxMonth {
				if n != 0 || err != api.ErrDate {
					t.Fatal(day, months, n, err)
				}
				continue
			}
			_, _, got := Date(n)
			if err != api.OK || Month(n) != month || got != min(dayOfMonth, Length(month)) {
				t.Fatal(day, months, n, err)
			}
		}
	}
}

// P2.6: a later day is not followed by an earlier one.
func TestLaterIsMonotonic(t *testing.T) {
	for _, months := range []int{0, 1, -1, 2, 11, 12, -12, 13, 25, 48, -49, 600, -600, 1198, -1198, 1199, -1199} {
		last, results := 0, 0
		for day := range api.MaxDay + 1 {
			n, err := Later(day, months)
			if err != api.OK {
				continue
			}
			if n < last {
				t.Fatal(months, day, last, n)
			}
			last = n
			results++
		}
		if results < 31 {
			t.Error(months, results)
		}
	}
}
