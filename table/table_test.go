package table

import (
	"fmt"
	"reflect"
	"slices"
	"testing"

	"synoptic/api"
)

const (
	least = -1 << 63
	most  = 1<<63 - 1
)

// good returns a valid entry with a code.
func good(code int) api.Entry {
	return api.Entry{Code: code, Element: 1 + code%11, Width: 10, Scale: 5, Least: 8000}
}

func sequence(code int, codes ...int) api.Sequence {
	return api.Sequence{Code: code, Codes: codes}
}

// entries returns valid entries with some codes.
func entries(codes ...int) []api.Entry {
	var l []api.Entry
	for _, code := range codes {
		l = append(l, good(code))
	}
	return l
}

// manyEntries returns so many valid entries with different codes.
func manyEntries(n int) []api.Entry {
	var l []api.Entry
	for i := range n {
		l = append(l, good(i+1))
	}
	return l
}

// manySequences returns so many sequences with different codes.
func manySequences(n int) []api.Sequence {
	var l []api.Sequence
	for i := range n {
		l = append(l, sequence(10000+i, 1))
	}
	return l
}

// sample returns a valid table that the tests change.
func sample() api.Table {
	return api.Table{Version: 3, Entries: entries(7, 8, 9999), Sequences: []api.Sequence{sequence(10001, 7, 8), sequence(10002, 10001, 20102, 9999), sequence(10003)}}
}

// with returns a table after a change.
func with(t api.Table, change func(t *api.Table)) api.Table {
	change(&t)
	return t
}

// duplicate returns a table that shares no memory with t, by other means than the package.
func duplicate(t api.Table) api.Table {
	c := api.Table{Version: t.Version, Entries: append([]api.Entry(nil), t.Entries...)}
	for _, s := range t.Sequences {
		c.Sequences = append(c.Sequences, sequence(s.Code, append([]int(nil), s.Codes...)...))
	}
	return c
}

// same reports whether two tables are equal, where lists that are nil and empty are the same.
func same(a, b api.Table) bool {
	return reflect.DeepEqual(duplicate(a), duplicate(b))
}

// kind holds the kind of each code that has one: "entry", "sequence" or "replication".
var kind = kinds()

func kinds() map[int]string {
	m := map[int]string{}
	for code := 1; code <= 9999; code++ {
		m[code] = "entry"
	}
	for code := 10000; code <= 19999; code++ {
		m[code] = "sequence"
	}
	for x := 1; x <= 20; x++ {
		for y := 1; y <= 20; y++ {
			m[20000+100*x+y] = "replication"
		}
	}
	return m
}

// someCodes returns the codes from -1000 to 30000, and some that are far from all others. Those above 32 bits end like codes that exist.
func someCodes() []int {
	l := []int{1<<32 + 7, 1<<32 + 10001, 1<<32 + 20102, -1<<32 + 7, -1<<32 + 10001, least, least + 1, least + 7, least + 20000, least + 20102, most, most - 1, 1000000, -20102, -22020}
	for code := -1000; code <= 30000; code++ {
		l = append(l, code)
	}
	return l
}

// faultyEntries returns entries that are not valid because of one field, except for the element.
func faultyEntries() []api.Entry {
	var l []api.Entry
	add := func(change func(e *api.Entry)) {
		e := good(7)
		change(&e)
		l = append(l, e)
	}
	for _, n := range []int{0, -1, -7, 10000, 10001, 20102, 1<<32 + 7, least, most} {
		add(func(e *api.Entry) { e.Code = n })
	}
	for _, n := range []int{1, 0, -1, -10, 25, 26, 63, 64, 65, 1<<32 + 10, least, most} {
		add(func(e *api.Entry) { e.Width = n })
	}
	for _, n := range []int{0, -1, -5, 1001, 1002, 1<<32 + 5, least, most} {
		add(func(e *api.Entry) { e.Scale = n })
	}
	for _, n := range []int{-100001, -100002, 100001, 100002, 1<<32 + 8000, -1 << 32, least, most} {
		add(func(e *api.Entry) { e.Least = n })
	}
	return l
}

// noElements holds codes of elements that do not exist.
var noElements = []int{0, -1, 12, 13, 1<<32 + 1, least, least + 1, most}

// limitEntries returns valid entries at the ends of the ranges.
func limitEntries() []api.Entry {
	var l []api.Entry
	for _, code := range []int{1, 2, 9998, 9999} {
		for _, kind := range []int{1, 2, 10, 11} {
			for _, width := range []int{2, 3, 23, 24} {
				for _, scale := range []int{1, 2, 999, 1000} {
					for _, offset := range []int{-100000, -99999, -1, 0, 1, 99999, 100000} {
						l = append(l, api.Entry{Code: code, Element: kind, Width: width, Scale: scale, Least: offset})
					}
				}
			}
		}
	}
	return l
}

// P8.1
func TestValidateOfValidTables(t *testing.T) {
	full := make([]int, 20)
	for i := range full {
		full[i] = 10000 + i
	}
	for name, x := range map[string]api.Table{
		"nothing":                                {Version: 1},
		"empty lists":                            {Version: 99, Entries: []api.Entry{}, Sequences: []api.Sequence{{Code: 10000, Codes: []int{}}}},
		"the sample":                             sample(),
		"entries only":                           {Version: 2, Entries: manyEntries(40)},
		"sequences only":                         {Version: 2, Sequences: manySequences(40)},
		"as many as possible of both":            {Version: 98, Entries: manyEntries(40), Sequences: manySequences(40)},
		"a full sequence":                        {Version: 5, Sequences: []api.Sequence{sequence(10000, full...), sequence(19999, full...)}},
		"missing codes":                          {Version: 5, Sequences: []api.Sequence{sequence(10000, 1, 9999, 10001, 19999)}},
		"a sequence that contains itself":        {Version: 5, Sequences: []api.Sequence{sequence(10000, 10000)}},
		"replications without codes":             {Version: 5, Sequences: []api.Sequence{sequence(10000, 20101, 20202, 22020)}},
		"a code twice in a sequence":             {Version: 5, Sequences: []api.Sequence{sequence(10000, 7, 7)}},
		"entries that differ in their code only": {Version: 5, Entries: []api.Entry{{Code: 1, Element: 2, Width: 3, Scale: 4, Least: 5}, {Code: 2, Element: 2, Width: 3, Scale: 4, Least: 5}}},
		"not in order":                           {Version: 5, Entries: entries(9, 3, 5), Sequences: []api.Sequence{sequence(10009), sequence(10003)}},
	} {
		if e := Validate(x); e != api.OK {
			t.Errorf("%s: Validate = %d", name, e)
		}
	}
	for _, x := range limitEntries() {
		if e := Validate(api.Table{Version: 1, Entries: []api.Entry{x}}); e != api.OK {
			t.Errorf("Validate of the entry %v = %d", x, e)
		}
	}
}

// P8.1
func TestValidateOfVersions(t *testing.T) {
	for version := 1; version <= 99; version++ {
		if e := Validate(with(sample(), func(t *api.Table) { t.Version = version })); e != api.OK {
			t.Errorf("Validate of the version %d = %d", version, e)
		}
	}
	for _, version := range []int{0, -1, 100, 101, 1<<32 + 1, least, most} {
		if e := Validate(with(sample(), func(t *api.Table) { t.Version = version })); e != api.ErrRange {
			t.Errorf("Validate of the version %d = %d, not ErrRange", version, e)
		}
	}
}

// P8.1: one more than each limit.
func TestValidateOfLimits(t *testing.T) {
	for name, x := range map[string]api.Table{
		"entries":                   {Version: 1, Entries: manyEntries(41)},
		"sequences":                 {Version: 1, Sequences: manySequences(41)},
		"many entries":              {Version: 1, Entries: manyEntries(5000)},
		"many sequences":            {Version: 1, Sequences: manySequences(5000)},
		"codes":                     {Version: 1, Sequences: []api.Sequence{sequence(10000, slices.Repeat([]int{7}, 21)...)}},
		"codes of the last one":     {Version: 1, Sequences: append(manySequences(39), sequence(19999, slices.Repeat([]int{7}, 21)...))},
		"codes in between":          {Version: 1, Sequences: []api.Sequence{sequence(10000), sequence(10001, slices.Repeat([]int{7}, 500)...), sequence(10002)}},
		"entries beside sequences":  {Version: 1, Entries: manyEntries(41), Sequences: manySequences(40)},
		"sequences besides entries": {Version: 1, Entries: manyEntries(40), Sequences: manySequences(41)},
	} {
		if e := Validate(x); e != api.ErrLimit {
			t.Errorf("%s: Validate = %d, not ErrLimit", name, e)
		}
	}
}

// P8.1: each entry that is not valid, at each position.
func TestValidateOfEntries(t *testing.T) {
	try := func(x api.Entry, want api.Errno) {
		for i := range 3 {
			l := entries(1, 2, 3)
			l[i] = x
			if e := Validate(api.Table{Version: 1, Entries: l}); e != want {
				t.Errorf("Validate of the entry %v = %d, not %d", x, e, want)
			}
		}
	}
	for _, x := range faultyEntries() {
		try(x, api.ErrRange)
	}
	for _, n := range noElements {
		x := good(7)
		x.Element = n
		try(x, api.ErrKind)
		x.Width = 1
		try(x, api.ErrKind)
	}
}

// P8.1: which codes entries, sequences, and the codes of sequences can have.
func TestValidateOfCodes(t *testing.T) {
	count := map[string]int{}
	for _, code := range someCodes() {
		count[kind[code]]++
		forEntry, forSequence, forCode := api.ErrRange, api.ErrRange, api.ErrRange
		switch kind[code] {
		case "entry":
			forEntry, forCode = api.OK, api.OK
		case "sequence":
			forSequence, forCode = api.OK, api.OK
		case "replication":
			forCode = api.OK
		}
		entry := good(7)
		entry.Code = code
		for _, x := range []struct {
			t    api.Table
			want api.Errno
		}{
			{api.Table{Version: 1, Entries: []api.Entry{entry}}, forEntry},
			{api.Table{Version: 1, Sequences: []api.Sequence{sequence(code, 7)}}, forSequence},
			{api.Table{Version: 1, Sequences: []api.Sequence{sequence(code)}}, forSequence},
			{api.Table{Version: 1, Sequences: []api.Sequence{sequence(10001, code)}}, forCode},
			{api.Table{Version: 1, Sequences: []api.Sequence{sequence(10000), sequence(10001, 7, 20101, code)}}, forCode},
			{api.Table{Version: 1, Sequences: []api.Sequence{sequence(10001, 7, code, 8), sequence(10002)}}, forCode},
		} {
			if e := Validate(x.t); e != x.want {
				t.Errorf("Validate(%v) = %d, not %d", x.t, e, x.want)
			}
		}
	}
	if count["entry"] != 9999 || count["sequence"] != 10000 || count["replication"] != 400 {
		t.Errorf("the codes of this test have the kinds %v", count)
	}
}

// P8.1
func TestValidateOfDuplicates(t *testing.T) {
	other := good(7)
	other.Element, other.Width, other.Scale, other.Least = 11, 2, 1, 0
	for name, x := range map[string]api.Table{
		"equal entries":                 {Version: 1, Entries: entries(7, 7)},
		"entries that differ":           {Version: 1, Entries: []api.Entry{good(7), other}},
		"entries far from each other":   {Version: 1, Entries: append(manyEntries(39), good(1))},
		"equal sequences":               {Version: 1, Sequences: []api.Sequence{sequence(10001, 7), sequence(10001, 7)}},
		"sequences that differ":         {Version: 1, Sequences: []api.Sequence{sequence(10001, 7), sequence(10001, 8)}},
		"sequences without codes":       {Version: 1, Sequences: []api.Sequence{sequence(10001), sequence(10002), sequence(10001)}},
		"sequences beside entries":      {Version: 1, Entries: manyEntries(40), Sequences: append(manySequences(39), sequence(10000))},
		"entries beside sequences":      {Version: 1, Entries: append(manyEntries(39), good(39)), Sequences: manySequences(40)},
		"three of a code":               {Version: 1, Entries: entries(7, 8, 7, 7)},
		"both entries and sequences":    {Version: 1, Entries: entries(7, 7), Sequences: []api.Sequence{sequence(10001), sequence(10001)}},
		"the ends of the range":         {Version: 1, Entries: entries(1, 9999, 1)},
		"the ends of that of sequences": {Version: 1, Sequences: []api.Sequence{sequence(19999), sequence(10000), sequence(19999)}},
	} {
		if e := Validate(x); e != api.ErrDuplicate {
			t.Errorf("%s: Validate = %d, not ErrDuplicate", name, e)
		}
	}
}

// P8.1: of all combinations of faults, the first one named decides.
func TestValidateReturnsTheFirstError(t *testing.T) {
	faults := []struct {
		e      api.Errno
		change func(t *api.Table)
	}{
		{api.ErrRange, func(t *api.Table) { t.Version = 100 }},
		{api.ErrLimit, func(t *api.Table) { t.Entries = append(t.Entries, manyEntries(60)[20:]...) }},
		{api.ErrLimit, func(t *api.Table) { t.Sequences = append(t.Sequences, manySequences(60)[20:]...) }},
		{api.ErrLimit, func(t *api.Table) {
			t.Sequences = append(t.Sequences, sequence(11000, slices.Repeat([]int{7}, 21)...))
		}},
		{api.ErrKind, func(t *api.Table) {
			t.Entries = append(t.Entries, api.Entry{Code: 100, Element: 12, Width: 10, Scale: 5})
		}},
		{api.ErrRange, func(t *api.Table) {
			t.Entries = append(t.Entries, api.Entry{Code: 101, Element: 1, Width: 1, Scale: 5})
		}},
		{api.ErrRange, func(t *api.Table) { t.Sequences = append(t.Sequences, sequence(9998, 7)) }},
		{api.ErrRange, func(t *api.Table) { t.Sequences = append(t.Sequences, sequence(11001, 20000)) }},
		{api.ErrDuplicate, func(t *api.Table) { t.Entries = append(t.Entries, good(8)) }},
		{api.ErrDuplicate, func(t *api.Table) { t.Sequences = append(t.Sequences, sequence(10003)) }},
	}
	for set := range 1 << len(faults) {
		want := api.OK
		x := sample()
		x.Entries = append(manyEntries(5), x.Entries...)
		// The last faults come first in the lists.
		for i := len(faults) - 1; i >= 0; i-- {
			if set>>i&1 == 1 {
				faults[i].change(&x)
				want = faults[i].e
			}
		}
		if e := Validate(x); e != want {
			t.Errorf("Validate with the faults %b = %d, not %d", set, e, want)
		}
	}
}

// P8.3
func TestChoose(t *testing.T) {
	first := sample()
	second := with(sample(), func(t *api.Table) { t.Version, t.Entries = 4, entries(1, 2) })
	third := api.Table{Version: 3, Entries: entries(5)}
	fourth := api.Table{Version: 99}
	// Tables that are not valid have a version all the same.
	fifth := api.Table{Version: -1, Entries: entries(7, 7)}
	sixth := api.Table{Entries: manyEntries(41), Sequences: []api.Sequence{sequence(1, least)}}
	all := []api.Table{first, second, third, fourth, fifth, sixth}
	for _, x := range []struct {
		l       []api.Table
		version int
		want    api.Table
		e       api.Errno
	}{
		{nil, 3, api.Table{}, api.ErrNone},
		{nil, 0, api.Table{}, api.ErrNone},
		{[]api.Table{}, 3, api.Table{}, api.ErrNone},
		{[]api.Table{first}, 3, first, api.OK},
		{[]api.Table{first}, 2, api.Table{}, api.ErrNone},
		{[]api.Table{first}, 0, api.Table{}, api.ErrNone},
		{all, 3, first, api.OK},
		{all, 4, second, api.OK},
		{all, 99, fourth, api.OK},
		{all, -1, fifth, api.OK},
		{all, 0, sixth, api.OK},
		{all, 1, api.Table{}, api.ErrNone},
		{all, 1<<32 + 3, api.Table{}, api.ErrNone},
		{all, least, api.Table{}, api.ErrNone},
		{all, most, api.Table{}, api.ErrNone},
		{[]api.Table{third, second, first}, 3, third, api.OK},
		{[]api.Table{second, third, first}, 3, third, api.OK},
		{[]api.Table{second, fourth, first}, 3, first, api.OK},
	} {
		if got, e := Choose(x.l, x.version); e != x.e || !same(got, x.want) {
			t.Errorf("Choose(%v, %d) = %v, %d, not %v, %d", x.l, x.version, got, e, x.want, x.e)
		}
	}
}

// Rule 2: what Choose returns is new memory, each of its lists.
func TestChooseReturnsNewMemory(t *testing.T) {
	l := []api.Table{{Version: 2}, sample()}
	got, e := Choose(l, 3)
	if e != api.OK {
		t.Fatalf("Choose = %d", e)
	}
	for i := range got.Entries {
		got.Entries[i] = api.Entry{}
	}
	for i := range got.Sequences {
		for k := range got.Sequences[i].Codes {
			got.Sequences[i].Codes[k] = 1
		}
		_ = append(got.Sequences[i].Codes, 2)
	}
	for i := range got.Sequences {
		for _, code := range got.Sequences[i].Codes {
			if code != 1 {
				t.Errorf("the codes of sequences share memory")
			}
		}
		got.Sequences[i] = api.Sequence{}
	}
	_ = append(got.Entries, good(1))
	_ = append(got.Sequences, sequence(10009))
	if !same(l[1], sample()) || !same(l[0], api.Table{Version: 2}) {
		t.Errorf("a change of the result changes the list to %v", l)
	}
}

// Rule 2: no function changes its arguments, not even behind the ends of the lists.
func TestArgumentsStay(t *testing.T) {
	for _, x := range []api.Table{sample(), with(sample(), func(t *api.Table) { t.Entries = entries(9, 9, 3) }), {}} {
		x.Entries = append(x.Entries, good(1000))[:len(x.Entries)]
		for i, s := range x.Sequences {
			x.Sequences[i].Codes = append(s.Codes, 1000)[:len(s.Codes)]
		}
		codes := []int{10002, 20102, 7, 1000}
		before, text := duplicate(x), fmt.Sprint(codes)
		l := []api.Table{x, x}
		Validate(x)
		Expand(x, codes[:3])
		Choose(l, x.Version)
		if !same(x, before) || !same(l[0], before) || !same(l[1], before) || fmt.Sprint(codes) != text {
			t.Errorf("the arguments %v are changed to %v, %v", before, x, codes)
		}
		if x.Entries[:len(before.Entries)+1][len(before.Entries)] != good(1000) {
			t.Errorf("the entry behind the list is changed")
		}
	}
}
