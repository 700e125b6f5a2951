package climate

import (
	"fmt"
	"math/rand"
	"slices"
	"strings"
	"testing"
	"time"

	"synoptic/api"
)

const (
	least = -1 << 63
	most  = 1<<63 - 1
)

// climateOf returns a climate whose normals are given as Element, Face, Month, Mean and Spread in turn.
func climateOf(numbers ...int) api.Climate {
	var c api.Climate
	for n := range slices.Chunk(numbers, 5) {
		c.Normals = append(c.Normals, api.Normal{Element: n[0], Face: n[1], Month: n[2], Mean: n[3], Spread: n[4]})
	}
	return c
}

// example returns a valid climate with neighbours in each of Element, Face and Month.
func example() api.Climate {
	return climateOf(
		1, 0, 1, 10132, 90,
		1, 0, 2, 10135, 6,
		1, 0, 12, 10100, 0,
		1, 5, 2, 10140, 20000,
		1, 14, 2, 10150, 7,
		2, 0, 2, 2700, 150,
		2, 5, 1, -10000, 1,
		4, 3, 7, -15, 100,
		4, 19, 7, 20000, 101,
		11, 19, 12, 2500, 30,
	)
}

// full returns a valid climate with some of all normals that are possible, in their order: beginning with the one after so many others, n of them.
func full(skipped, n int) api.Climate {
	var c api.Climate
	for i := skipped; i < skipped+n; i++ {
		c.Normals = append(c.Normals, api.Normal{Element: i/240 + 1, Face: i / 12 % 20, Month: i%12 + 1, Mean: 1000 + i, Spread: i % 7})
	}
	return c
}

// copied returns a climate that shares no memory with c.
func copied(c api.Climate) api.Climate {
	return api.Climate{Normals: append([]api.Normal(nil), c.Normals...)}
}

// text returns a text that is the same exactly for climates that are the same.
func text(c api.Climate) string {
	s := ""
	for _, n := range c.Normals {
		s += fmt.Sprintf("%d %d %d: %d, %d\n", n.Element, n.Face, n.Month, n.Mean, n.Spread)
	}
	return s
}

// minuteOf returns the minute of a date, by the calendar of Go's library.
func minuteOf(year, month, day, hour, minute int) int {
	return int(time.Date(year, time.Month(month), day, hour, minute, 0, 0, time.UTC).Sub(time.Date(2000, 1, 1, 0, 0, 0, 0, time.UTC)) / time.Minute)
}

// checkValidate compares what Validate returns with what is expected.
func checkValidate(t *testing.T, c api.Climate, want api.Errno) {
	t.Helper()
	before := copied(c)
	if got := Validate(c); got != want {
		t.Fatalf("Validate = %d, not %d, of\n%s", got, want, text(c))
	}
	if text(c) != text(before) {
		t.Fatalf("Validate changed its argument\n%s to\n%s", text(before), text(c))
	}
}

// badElements returns numbers that are no elements.
func badElements() []int {
	return []int{0, 12, -1, 13, 100, 1<<32 + 1, least, most}
}

// badNormals returns normals whose element exists, but which are not valid.
func badNormals() []api.Normal {
	var l []api.Normal
	for _, n := range []int{-1, 20, 21, 1 << 32, least, most} {
		l = append(l, climateOf(4, n, 7, 10, 10).Normals...)
	}
	for _, n := range []int{0, 13, -1, 1<<32 + 1, least, most} {
		l = append(l, climateOf(4, 10, n, 10, 10).Normals...)
	}
	for _, n := range []int{-10001, 20001, 1 << 32, least, most} {
		l = append(l, climateOf(4, 10, 7, n, 10).Normals...)
	}
	for _, n := range []int{-1, 20001, 1 << 32, least, most} {
		l = append(l, climateOf(4, 10, 7, 10, n).Normals...)
	}
	return l
}

// P13.1: climates that are valid.
func TestValidate(t *testing.T) {
	for _, c := range []api.Climate{
		{}, {Normals: []api.Normal{}}, example(), full(0, api.MaxNormals), full(1234, 199), full(2440, api.MaxNormals),
		climateOf(1, 0, 1, 0, 0), climateOf(11, 19, 12, 20000, 20000), climateOf(5, 7, 6, -10000, 0), climateOf(1, 0, 1, -10000, 20000),
		climateOf(1, 19, 12, 0, 0, 2, 0, 1, 0, 0), climateOf(3, 4, 12, 7, 0, 3, 5, 1, 6, 9),
	} {
		checkValidate(t, c, api.OK)
	}
	for i := range 2640 {
		checkValidate(t, full(i, 1), api.OK)
	}
}

// P13.1: each error by itself, at any index.
func TestValidateErrors(t *testing.T) {
	checkValidate(t, full(0, api.MaxNormals+1), api.ErrLimit)
	checkValidate(t, full(2000, 640), api.ErrLimit)
	for i := range example().Normals {
		for _, code := range badElements() {
			c := example()
			c.Normals[i].Element = code
			checkValidate(t, c, api.ErrKind)
		}
		for _, n := range badNormals() {
			c := example()
			c.Normals[i] = n
			checkValidate(t, c, api.ErrRange)
			n.Element = c.Normals[max(i-1, 0)].Element
			c.Normals[i] = n
			checkValidate(t, c, api.ErrRange)
		}
		for j := range i {
			c := example()
			c.Normals[i], c.Normals[j] = c.Normals[j], c.Normals[i]
			checkValidate(t, c, api.ErrOrder)
			c = example()
			c.Normals[i] = c.Normals[j]
			checkValidate(t, c, api.ErrOrder)
		}
	}
}

// P13.1: two normals, by which of their fields are less, equal or greater.
func TestValidateOrder(t *testing.T) {
	for i := range 243 {
		a := climateOf(5, 10, 6, 100, 50).Normals[0]
		b := api.Normal{Element: 4 + i%3, Face: 9 + i/3%3, Month: 5 + i/9%3, Mean: 99 + i/27%3, Spread: 49 + i/81}
		want := api.ErrOrder
		if b.Element > 5 || b.Element == 5 && b.Face > 10 || b.Element == 5 && b.Face == 10 && b.Month > 6 {
			want = api.OK
		}
		checkValidate(t, api.Climate{Normals: []api.Normal{a, b}}, want)
	}
}

// P13.1: each error comes before those that are named behind it, wherever they are.
func TestValidateReturnsTheFirstError(t *testing.T) {
	checkValidate(t, api.Climate{Normals: make([]api.Normal, api.MaxNormals)}, api.ErrKind)
	checkValidate(t, api.Climate{Normals: make([]api.Normal, api.MaxNormals+1)}, api.ErrLimit)
	for i := range 5 {
		for j := range 5 {
			turned := climateOf(5, 4, 3, 2, 1, 4, 4, 3, 2, 1, 3, 4, 3, 2, 1, 2, 4, 3, 2, 1, 1, 4, 3, 2, 1)
			checkValidate(t, turned, api.ErrOrder)
			turned.Normals[i].Month = 13
			checkValidate(t, turned, api.ErrRange)
			turned.Normals[j].Element = 12
			checkValidate(t, turned, api.ErrKind)
			turned.Normals = append(turned.Normals, make([]api.Normal, 195)...)
			checkValidate(t, turned, api.ErrKind)
			turned.Normals = append(turned.Normals, full(0, 1).Normals...)
			checkValidate(t, turned, api.ErrLimit)
		}
	}
}

// P13.1: Same looks at all fields of all normals, also of climates that are not valid.
func TestSame(t *testing.T) {
	none := api.Climate{Normals: []api.Normal{}}
	l := []api.Climate{{}, example(), full(0, 200), full(1, 200), full(0, 199), full(0, 201), climateOf(12, -1, 13, least, most), climateOf(1, 0, 1, 0, 0), climateOf(0, 0, 0, 0, 0), climateOf(0, 0, 0, 0, 0, 0, 0, 0, 0, 0)}
	for i := range example().Normals {
		for field := range 5 {
			c := example()
			n := &c.Normals[i]
			*[]*int{&n.Element, &n.Face, &n.Month, &n.Mean, &n.Spread}[field]++
			l = append(l, c)
		}
		c := example()
		l = append(l, api.Climate{Normals: slices.Delete(c.Normals, i, i+1)})
	}
	turned := example()
	slices.Reverse(turned.Normals)
	l = append(l, turned)
	for i, a := range l {
		for j, b := range l {
			if got := Same(a, copied(b)); got != (i == j) {
				t.Fatalf("Same is %t for\n%sand\n%s", got, text(a), text(b))
			}
		}
		if got := Same(none, a); got != (i == 0) {
			t.Fatalf("Same is %t for an empty list and\n%s", got, text(a))
		}
		if got := Same(a, none); got != (i == 0) {
			t.Fatalf("Same is %t for\n%sand an empty list", got, text(a))
		}
	}
}

// checkLookup compares what Lookup returns with what is expected.
func checkLookup(t *testing.T, c api.Climate, code int, p api.Place, minute int, want api.Normal, e api.Errno) {
	t.Helper()
	before := copied(c)
	if got, err := Lookup(c, code, p, minute); got != want || err != e {
		t.Fatalf("Lookup of %d, %v, %d = %v, %d, not %v, %d, with\n%s", code, p, minute, got, err, want, e, text(c))
	}
	if text(c) != text(before) {
		t.Fatalf("Lookup changed its argument\n%s to\n%s", text(before), text(c))
	}
}

// addresses holds places that are the same in each row, the normal one first, by hand.
func addresses() [][]api.Place {
	return [][]api.Place{
		{{Face: 0, A: 840}, {Face: 1, A: 840}, {Face: 2, A: 840}, {Face: 3, A: 840}, {Face: 4, A: 840}},
		{{Face: 0, C: 840}, {Face: 1, B: 840}, {Face: 5, C: 840}, {Face: 6, A: 840}, {Face: 10, C: 840}},
		{{Face: 15, A: 840}, {Face: 16, A: 840}, {Face: 17, A: 840}, {Face: 18, A: 840}, {Face: 19, A: 840}},
		{{Face: 5, A: 420, B: 420}, {Face: 14, B: 420, C: 420}},
		{{Face: 5, A: 1, B: 839}, {Face: 14, B: 839, C: 1}},
		{{Face: 0, B: 300, C: 540}, {Face: 5, A: 300, C: 540}},
		{{Face: 0, A: 100, C: 740}, {Face: 1, A: 100, B: 740}},
		{{Face: 0, A: 839, B: 1}, {Face: 4, A: 839, C: 1}},
		{{Face: 5, A: 1, B: 1, C: 838}},
		{{Face: 14, A: 1, B: 419, C: 420}},
		{{Face: 19, A: 838, B: 1, C: 1}},
		{{Face: 1, B: 420, C: 420}, {Face: 6, A: 420, C: 420}},
	}
}

// wrongPlaces returns places that are not valid.
func wrongPlaces() []api.Place {
	return []api.Place{
		{}, {Face: 1}, {A: 839}, {A: 841}, {A: 841, B: -1}, {B: 841, C: -1}, {A: -1, B: 421, C: 420}, {B: -1, C: 841}, {A: 280, B: 280, C: 281},
		{Face: 20, A: 280, B: 280, C: 280}, {Face: -1, A: 280, B: 280, C: 280}, {Face: 1 << 32, A: 840}, {Face: most, A: 840}, {Face: least, A: 840},
		{Face: 3, A: least, B: most, C: 841}, {A: most, B: most, C: 842}, {Face: most, A: least, B: most, C: 841},
	}
}

// wrongMinutes returns numbers that are no minutes.
func wrongMinutes() []int {
	return []int{-1, api.MaxMinute + 1, -44640, 1 << 32, -1 << 32, least, most}
}

// P13.2: each normal of the example is found by itself, and nothing else.
func TestLookup(t *testing.T) {
	c := example()
	for code := -1; code <= 13; code++ {
		for face := range 20 {
			at := api.Place{Face: face, A: 280, B: 280, C: 280}
			for month := 1; month <= 12; month++ {
				var want api.Normal
				e := api.ErrNone
				for _, n := range c.Normals {
					if n.Element == code && n.Face == face && n.Month == month {
						want, e = n, api.OK
					}
				}
				checkLookup(t, c, code, at, minuteOf(2000+face, month, 15, 6, 30), want, e)
			}
		}
	}
}

// P13.2: the Face is that of the normal place, whichever address is given.
func TestLookupByNormalPlace(t *testing.T) {
	var c api.Climate
	for face := range 20 {
		c.Normals = append(c.Normals, api.Normal{Element: 2, Face: face, Month: 7, Mean: 2800 + face, Spread: face})
	}
	minute := minuteOf(2026, 7, 4, 12, 0)
	for _, same := range addresses() {
		face := same[0].Face
		without := api.Climate{Normals: slices.Delete(copied(c).Normals, face, face+1)}
		for _, p := range same {
			checkLookup(t, c, 2, p, minute, c.Normals[face], api.OK)
			checkLookup(t, without, 2, p, minute, api.Normal{}, api.ErrNone)
		}
	}
}

// P13.2: the Month is that of the date, from the first minute of a month to its last one.
func TestLookupByMonth(t *testing.T) {
	c := full(240+13*12, 12)
	at := api.Place{Face: 13, A: 1, B: 2, C: 837}
	for year := 2000; year <= 2099; year++ {
		for month := 1; month <= 12; month++ {
			from, to := minuteOf(year, month, 1, 0, 0), minuteOf(year, month+1, 1, 0, 0)-1
			for _, minute := range []int{from, from + 1, (from + to) / 2, to - 1, to} {
				checkLookup(t, c, 2, at, minute, c.Normals[month-1], api.OK)
			}
		}
	}
	checkLookup(t, c, 2, at, 0, c.Normals[0], api.OK)
	checkLookup(t, c, 2, at, api.MaxMinute, c.Normals[11], api.OK)
	checkLookup(t, c, 2, at, minuteOf(2000, 2, 29, 23, 59), c.Normals[1], api.OK)
	checkLookup(t, c, 2, at, minuteOf(2000, 3, 1, 0, 0), c.Normals[2], api.OK)
}

// P13.2: in climates of all sizes, each normal is found, and those beside them are not.
func TestLookupInManyNormals(t *testing.T) {
	random := rand.New(rand.NewSource(1))
	for range 60 {
		all := full(0, 2640)
		random.Shuffle(2640, func(i, j int) { all.Normals[i], all.Normals[j] = all.Normals[j], all.Normals[i] })
		n := random.Intn(api.MaxNormals + 1)
		c, others := api.Climate{Normals: all.Normals[:n:n]}, all.Normals[n:]
		slices.SortFunc(c.Normals, func(a, b api.Normal) int {
			return strings.Compare(fmt.Sprintf("%02d %02d %02d", a.Element, a.Face, a.Month), fmt.Sprintf("%02d %02d %02d", b.Element, b.Face, b.Month))
		})
		check := func(x, want api.Normal, e api.Errno) {
			checkLookup(t, c, x.Element, api.Place{Face: x.Face, A: 2, B: 837, C: 1}, minuteOf(2000+random.Intn(100), x.Month, 1+random.Intn(28), random.Intn(24), random.Intn(60)), want, e)
		}
		for _, x := range c.Normals {
			check(x, x, api.OK)
		}
		for _, x := range others[:100] {
			check(x, api.Normal{}, api.ErrNone)
		}
	}
}

// P13.2: the errors in their order.
func TestLookupErrors(t *testing.T) {
	inner := api.Place{A: 280, B: 280, C: 280}
	limit, kind, wrong, order := full(0, 201), example(), example(), example()
	kind.Normals[3].Element = 12
	wrong.Normals[9].Spread = -1
	order.Normals[5] = order.Normals[4]
	for e, c := range map[api.Errno]api.Climate{api.ErrLimit: limit, api.ErrKind: kind, api.ErrRange: wrong, api.ErrOrder: order} {
		checkLookup(t, c, 1, inner, 0, api.Normal{}, e)
		checkLookup(t, c, 99, inner, 0, api.Normal{}, e)
		checkLookup(t, c, 1, api.Place{}, 0, api.Normal{}, e)
		checkLookup(t, c, 1, inner, -1, api.Normal{}, e)
	}
	for _, c := range []api.Climate{{}, example(), full(0, 200)} {
		for _, code := range append(badElements(), 1, 7, 11) {
			for _, p := range wrongPlaces() {
				checkLookup(t, c, code, p, 0, api.Normal{}, api.ErrRange)
				checkLookup(t, c, code, p, -1, api.Normal{}, api.ErrRange)
			}
			for _, minute := range wrongMinutes() {
				checkLookup(t, c, code, inner, minute, api.Normal{}, api.ErrRange)
			}
		}
		for _, code := range badElements() {
			checkLookup(t, c, code, inner, 0, api.Normal{}, api.ErrNone)
		}
	}
	for code := 1; code <= api.MaxElements; code++ {
		checkLookup(t, api.Climate{}, code, inner, 0, api.Normal{}, api.ErrNone)
		checkLookup(t, api.Climate{Normals: []api.Normal{}}, code, inner, api.MaxMinute, api.Normal{}, api.ErrNone)
	}
}
