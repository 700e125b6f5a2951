package element

import (
	"math/rand"
	"slices"
	"testing"

	"synoptic/api"
)

const (
	least = -1 << 63
	most  = 1<<63 - 1
)

// elements holds the rows of the chapter, written out.
var elements = map[int]api.Info{
	api.Pressure: {Letter: "P", Least: 8000, Most: 11000, Digits: 5},
	api.Air:      {Letter: "T", Least: 1800, Most: 3300, Digits: 4},
	api.Dew:      {Letter: "D", Least: 1800, Most: 3300, Digits: 4},
	api.East:     {Letter: "E", Least: -1000, Most: 1000, Digits: 4},
	api.North:    {Letter: "N", Least: -1000, Most: 1000, Digits: 4},
	api.H850:     {Letter: "A", Least: 900, Most: 1700, Digits: 4},
	api.T850:     {Letter: "B", Least: 2000, Most: 3200, Digits: 4},
	api.H700:     {Letter: "F", Least: 2400, Most: 3400, Digits: 4},
	api.T700:     {Letter: "G", Least: 2000, Most: 3000, Digits: 4},
	api.H500:     {Letter: "J", Least: 4400, Most: 6200, Digits: 4},
	api.T500:     {Letter: "K", Least: 2000, Most: 2900, Digits: 4},
}

// noElements holds codes that do not exist. Those above 32 bits end like codes that exist.
var noElements = []int{0, -1, -2, -11, 12, 13, 80, 256, 257, 1<<32 + 1, 1<<32 + 11, -1<<32 + 1, least, least + 1, most - 1, most}

func reading(element, value int) api.Reading {
	return api.Reading{Element: element, Value: value}
}

// list returns the readings whose elements and values are given in turn.
func list(numbers ...int) []api.Reading {
	var l []api.Reading
	for i := 0; i < len(numbers); i += 2 {
		l = append(l, reading(numbers[i], numbers[i+1]))
	}
	return l
}

// P4.1
func TestDescribe(t *testing.T) {
	if len(elements) != api.MaxElements {
		t.Fatalf("%d elements, not %d", len(elements), api.MaxElements)
	}
	for code, want := range elements {
		if got, e := Describe(code); got != want || e != api.OK {
			t.Errorf("Describe(%d) = %v, %d, not %v", code, got, e, want)
		}
	}
	for _, code := range noElements {
		if got, e := Describe(code); got != (api.Info{}) || e != api.ErrKind {
			t.Errorf("Describe(%d) = %v, %d, not ErrKind", code, got, e)
		}
	}
}

// P4.1
func TestByLetter(t *testing.T) {
	codes := map[string]int{}
	for code, info := range elements {
		codes[info.Letter] = code
	}
	for b := range 256 {
		s := string([]byte{byte(b)})
		want, found := codes[s]
		expected := api.ErrNone
		if found {
			expected = api.OK
		}
		if got, e := ByLetter(s); got != want || e != expected {
			t.Errorf("ByLetter(%q) = %d, %d, not %d, %d", s, got, e, want, expected)
		}
	}
}

// P4.1: texts that are not one letter, among them parts of the table of letters.
func TestByLetterOfOtherTexts(t *testing.T) {
	for _, s := range []string{"", "PT", "PTD", "PTDENABFGJK", "JK", "PP", "P ", " P", "P\x00", "\x00P", "\n", "Р", "Т", "Ē", "P10132", "1"} {
		if got, e := ByLetter(s); got != 0 || e != api.ErrNone {
			t.Errorf("ByLetter(%q) = %d, %d, not ErrNone", s, got, e)
		}
	}
}

// P4.2: both ends of each range, and the values behind them.
func TestValidateOfOneReading(t *testing.T) {
	for code, info := range elements {
		for _, x := range []struct {
			value int
			want  api.Errno
		}{
			{info.Least, api.OK}, {info.Least + 1, api.OK}, {info.Most - 1, api.OK}, {info.Most, api.OK},
			{info.Least - 1, api.ErrRange}, {info.Most + 1, api.ErrRange},
			{-info.Most - 1, api.ErrRange}, {least, api.ErrRange}, {most, api.ErrRange},
		} {
			if got := Validate(list(code, x.value)); got != x.want {
				t.Errorf("Validate of the value %d of %d is %d, not %d", x.value, code, got, x.want)
			}
		}
	}
	for _, code := range noElements {
		if got := Validate(list(code, 2800)); got != api.ErrKind {
			t.Errorf("Validate of a reading of %d is %d, not ErrKind", code, got)
		}
	}
}

// P4.2: which error is first, wherever in the list the causes are.
func TestValidate(t *testing.T) {
	for _, x := range []struct {
		name string
		l    []api.Reading
		want api.Errno
	}{
		{"nil", nil, api.OK},
		{"empty", []api.Reading{}, api.OK},
		{"all elements", list(1, 10132, 2, 2815, 3, 2700, 4, -57, 5, 0, 6, 1500, 7, 2780, 8, 3000, 9, 2650, 10, 5600, 11, 2500), api.OK},
		{"gaps", list(1, 8000, 4, 1000, 11, 2900), api.OK},
		{"descending", list(2, 2800, 1, 10000), api.ErrOrder},
		{"descending at the end", list(1, 10000, 3, 2800, 2, 2800), api.ErrOrder},
		{"the first and the last one ascend", list(1, 10000, 5, 0, 2, 2800, 6, 1500), api.ErrOrder},
		{"twice", list(2, 2800, 2, 2800), api.ErrOrder},
		{"twice with another value", list(2, 2800, 2, 2801), api.ErrOrder},
		{"twice, not side by side", list(2, 2800, 3, 2800, 2, 2800), api.ErrOrder},
		{"a range", list(1, 10000, 2, 10000), api.ErrRange},
		{"the values of another order", list(2, 10132, 1, 2815), api.ErrRange},
		{"order before range", list(2, 2800, 1, 10000, 3, 1799), api.ErrRange},
		{"range before order", list(1, 7999, 3, 2800, 2, 2800), api.ErrRange},
		{"range before kind", list(1, 7999, 12, 0), api.ErrKind},
		{"range before kind 0", list(1, 7999, 0, 0), api.ErrKind},
		{"kind before range", list(0, 0, 1, 11001), api.ErrKind},
		{"order before kind", list(2, 2800, 1, 10000, 12, 0), api.ErrKind},
		{"kind before order", list(-1, 0, 2, 2800, 1, 10000), api.ErrKind},
		{"all three", list(2, 2800, 1, 7999, 12, 0), api.ErrKind},
		{"kind in the middle", list(1, 10000, 12, 2800, 2, 2800), api.ErrKind},
		{"a kind of most", list(1, 10000, most, 2800), api.ErrKind},
		{"a kind of least", list(least, 2800, 1, 10000), api.ErrKind},
	} {
		if got := Validate(x.l); got != x.want {
			t.Errorf("%s: Validate(%v) = %d, not %d", x.name, x.l, got, x.want)
		}
	}
}

// expectedError returns what the promise says of a list, by the table of this test.
func expectedError(l []api.Reading) api.Errno {
	var kind, outside, order bool
	for i, r := range l {
		info, found := elements[r.Element]
		kind = kind || !found
		outside = outside || found && (r.Value < info.Least || r.Value > info.Most)
		order = order || i > 0 && l[i-1].Element >= r.Element
	}
	switch {
	case kind:
		return api.ErrKind
	case outside:
		return api.ErrRange
	case order:
		return api.ErrOrder
	}
	return api.OK
}

// P4.2: all lists of up to three readings out of some that are valid or not.
func TestValidateOfShortLists(t *testing.T) {
	some := list(0, 0, 1, 10000, 1, 7999, 2, 2800, 4, -1000, 4, -1001, 11, 2900, 11, 2901, 12, 2500)
	var lists [][]api.Reading
	for _, p := range some {
		lists = append(lists, []api.Reading{p})
		for _, q := range some {
			lists = append(lists, []api.Reading{p, q})
			for _, r := range some {
				lists = append(lists, []api.Reading{p, q, r})
			}
		}
	}
	count := map[api.Errno]int{}
	for _, l := range lists {
		want := expectedError(l)
		count[want]++
		if got := Validate(l); got != want {
			t.Errorf("Validate(%v) = %d, not %d", l, got, want)
		}
	}
	for _, e := range []api.Errno{api.OK, api.ErrKind, api.ErrRange, api.ErrOrder} {
		if count[e] == 0 {
			t.Errorf("no list has the error %d", e)
		}
	}
}

// The consequence: Validate accepts every part of a list that it accepts.
func TestValidateAcceptsParts(t *testing.T) {
	var all []api.Reading
	for code := 1; code <= api.MaxElements; code++ {
		all = append(all, reading(code, elements[code].Most))
	}
	for set := range 1 << len(all) {
		var part []api.Reading
		for i, r := range all {
			if set>>i&1 == 1 {
				part = append(part, r)
			}
		}
		if got := Validate(part); got != api.OK {
			t.Fatalf("Validate(%v) = %d, not OK", part, got)
		}
	}
}

// P4.3: also of lists that are not valid, whose first reading counts.
func TestFind(t *testing.T) {
	for _, x := range []struct {
		l     []api.Reading
		code  int
		want  int
		found bool
	}{
		{nil, api.Air, 0, false},
		{[]api.Reading{}, 0, 0, false},
		{list(1, 10132, 2, 2815, 4, -57), 1, 10132, true},
		{list(1, 10132, 2, 2815, 4, -57), 2, 2815, true},
		{list(1, 10132, 2, 2815, 4, -57), 4, -57, true},
		{list(1, 10132, 2, 2815, 4, -57), 3, 0, false},
		{list(1, 10132, 2, 2815, 4, -57), 0, 0, false},
		{list(1, 10132, 2, 2815, 4, -57), 5, 0, false},
		{list(1, 10132, 2, 2815, 4, -57), 12, 0, false},
		{list(1, 10132, 2, 2815, 4, -57), 2815, 0, false},
		{list(4, 0), 4, 0, true},
		{list(2, 2800, 2, 2801), 2, 2800, true},
		{list(2, 2801, 2, 2800), 2, 2801, true},
		{list(3, 1, 2, 5, 3, 2, 2, 4), 2, 5, true},
		{list(2, 0, 2, 2800), 2, 0, true},
		{list(5, 7, 1, 8), 1, 8, true},
		{list(11, 2500), 11, 2500, true},
		{list(2, most, 3, least), 2, most, true},
		{list(2, most, 3, least), 3, least, true},
		{list(0, 5), 0, 5, true},
		{list(12, 5, most, 6), most, 6, true},
	} {
		if got, found := Find(x.l, x.code); got != x.want || found != x.found {
			t.Errorf("Find(%v, %d) = %d, %v, not %d, %v", x.l, x.code, got, found, x.want, x.found)
		}
	}
}

// P4.3: also of lists that are not valid, and with codes that do not exist, or that are given twice.
func TestWithout(t *testing.T) {
	for _, x := range []struct {
		l     []api.Reading
		codes []int
		want  []api.Reading
	}{
		{nil, nil, nil},
		{nil, []int{1}, nil},
		{[]api.Reading{}, []int{}, nil},
		{list(1, 10132, 2, 2815, 4, -57), nil, list(1, 10132, 2, 2815, 4, -57)},
		{list(1, 10132, 2, 2815, 4, -57), []int{}, list(1, 10132, 2, 2815, 4, -57)},
		{list(1, 10132, 2, 2815, 4, -57), []int{1}, list(2, 2815, 4, -57)},
		{list(1, 10132, 2, 2815, 4, -57), []int{2}, list(1, 10132, 4, -57)},
		{list(1, 10132, 2, 2815, 4, -57), []int{4}, list(1, 10132, 2, 2815)},
		{list(1, 10132, 2, 2815, 4, -57), []int{3, 5}, list(1, 10132, 2, 2815, 4, -57)},
		{list(1, 10132, 2, 2815, 4, -57), []int{4, 1}, list(2, 2815)},
		{list(1, 10132, 2, 2815, 4, -57), []int{4, 4, 2, 1, 4}, nil},
		{list(1, 10132, 2, 2815, 4, -57), []int{0, -1, 12, 10132, 2815, -57}, list(1, 10132, 2, 2815, 4, -57)},
		{list(5, 3, 1, 2, 5, 1, 2, 9), []int{1}, list(5, 3, 5, 1, 2, 9)},
		{list(5, 3, 1, 2, 5, 1, 2, 9), []int{5}, list(1, 2, 2, 9)},
		{list(5, 3, 5, 3, 2, 9, 2, 9), []int{5}, list(2, 9, 2, 9)},
		{list(0, 1, 12, 2, most, 3, least, 4), []int{0, most}, list(12, 2, least, 4)},
	} {
		l, codes := slices.Clone(x.l), slices.Clone(x.codes)
		if got := Without(l, codes); !slices.Equal(got, x.want) {
			t.Errorf("Without(%v, %v) = %v, not %v", x.l, x.codes, got, x.want)
		}
		if !slices.Equal(l, x.l) || !slices.Equal(codes, x.codes) {
			t.Errorf("Without changes its arguments %v, %v to %v, %v", x.l, x.codes, l, codes)
		}
	}
}

// P4.3: what Without leaves out are all readings of the codes, and it keeps the order of the others.
func TestFindAndWithout(t *testing.T) {
	random := rand.New(rand.NewSource(4))
	for range 2000 {
		var l, want []api.Reading
		var codes []int
		first := map[int]int{}
		for range random.Intn(4) {
			codes = append(codes, random.Intn(15)-1)
		}
		for i := range random.Intn(12) {
			r := reading(random.Intn(15)-1, i)
			l = append(l, r)
			if _, found := first[r.Element]; !found {
				first[r.Element] = r.Value
			}
			if !slices.Contains(codes, r.Element) {
				want = append(want, r)
			}
		}
		if got := Without(l, codes); !slices.Equal(got, want) {
			t.Fatalf("Without(%v, %v) = %v, not %v", l, codes, got, want)
		}
		for code := -2; code <= 14; code++ {
			value, expected := first[code]
			if got, found := Find(l, code); got != value || found != expected {
				t.Fatalf("Find(%v, %d) = %d, %v, not %d, %v", l, code, got, found, value, expected)
			}
		}
	}
}

// Rule 2: results are new memory, also if nothing is left out.
func TestWithoutIsNew(t *testing.T) {
	l := list(1, 10132, 2, 2815, 4, -57)
	for _, codes := range [][]int{nil, {1}, {4}, {12}} {
		rest := Without(l, codes)
		for i := range rest {
			rest[i] = reading(9, 9)
		}
		_ = append(rest, reading(9, 9))
		if want := list(1, 10132, 2, 2815, 4, -57); !slices.Equal(l, want) {
			t.Fatalf("a change of Without(%v, %v) changes the list to %v", want, codes, l)
		}
	}
	empty := make([]api.Reading, 0, 3)
	_ = append(Without(empty, nil), reading(9, 9))
	if got := empty[:1]; got[0] != (api.Reading{}) {
		t.Errorf("the result of an empty list has its memory: %v", got)
	}
}
