package table

import (
	"math/rand"
	"slices"
	"testing"

	"synoptic/api"
)

// frame is a list of codes that the expected expansion is working on: the one whose turn is next, how many times the list is still to be begun, and in how many sequences it is.
type frame struct {
	codes            []int
	next, more, deep int
}

// expected returns the expansion of a list with the codes of the entries and its error, by the words of the chapter, for a valid table. It keeps a stack instead of calling itself.
func expected(t api.Table, codes []int) ([]int, api.Errno) {
	if len(codes) > 20 {
		return nil, api.ErrLimit
	}
	var out []int
	taken := 0
	stack := []*frame{{codes: codes}}
	for len(stack) > 0 {
		top := stack[len(stack)-1]
		if top.next == len(top.codes) {
			if top.more--; top.more < 0 {
				stack = stack[:len(stack)-1]
			}
			top.next = 0
			continue
		}
		code := top.codes[top.next]
		top.next++
		if taken++; taken > 500 {
			return nil, api.ErrLimit
		}
		switch kind[code] {
		case "entry":
			if !slices.ContainsFunc(t.Entries, func(e api.Entry) bool { return e.Code == code }) {
				return nil, api.ErrMissing
			}
			if out = append(out, code); len(out) > 60 {
				return nil, api.ErrLimit
			}
		case "sequence":
			i := slices.IndexFunc(t.Sequences, func(s api.Sequence) bool { return s.Code == code })
			if i < 0 {
				return nil, api.ErrMissing
			}
			if top.deep > 20 {
				return nil, api.ErrLimit
			}
			stack = append(stack, &frame{codes: t.Sequences[i].Codes, deep: top.deep + 1})
		case "replication":
			x, y := (code-20000)/100, (code-20000)%100
			if x > len(top.codes)-top.next {
				return nil, api.ErrShort
			}
			stack = append(stack, &frame{codes: top.codes[top.next : top.next+x], more: y - 1, deep: top.deep})
			top.next += x
		default:
			return nil, api.ErrRange
		}
	}
	return out, api.OK
}

// checkExpand compares what Expand returns with the codes of the entries that are expected, and with their other fields.
func checkExpand(t *testing.T, name string, x api.Table, codes []int, want []int, fault api.Errno) {
	t.Helper()
	got, e := Expand(x, codes)
	if e != fault || len(got) != len(want) {
		t.Errorf("%s: Expand(%v) = %v, %d, not %v, %d", name, codes, got, e, want, fault)
		return
	}
	for i, code := range want {
		k := slices.IndexFunc(x.Entries, func(e api.Entry) bool { return e.Code == code })
		if got[i] != x.Entries[k] {
			t.Errorf("%s: Expand(%v) = %v, not %v", name, codes, got, want)
			return
		}
	}
}

// numbered returns a table with the entries 1 to 9 and some sequences.
func numbered(l ...api.Sequence) api.Table {
	return api.Table{Version: 1, Entries: manyEntries(9), Sequences: l}
}

// P8.2: the examples of the chapter.
func TestExpandOfExamples(t *testing.T) {
	x := api.Table{Version: 1, Entries: entries(7), Sequences: []api.Sequence{sequence(10000, 10000)}}
	checkExpand(t, "twice", x, []int{20102, 7}, []int{7, 7}, api.OK)
	checkExpand(t, "too short", x, []int{20202, 7}, nil, api.ErrShort)
	checkExpand(t, "itself", x, []int{10000}, nil, api.ErrLimit)
}

// P8.2
func TestExpand(t *testing.T) {
	x := numbered(sequence(10000), sequence(10001, 1, 2), sequence(10002, 10001, 3, 10001), sequence(10003, 20202, 4, 5, 6), sequence(19999, 10003, 20102, 10002))
	for _, c := range []struct {
		name  string
		codes []int
		want  []int
	}{
		{"nil", nil, nil},
		{"empty", []int{}, nil},
		{"entries", []int{3, 1, 3, 9}, []int{3, 1, 3, 9}},
		{"a sequence", []int{10001}, []int{1, 2}},
		{"a sequence twice", []int{10001, 7, 10001}, []int{1, 2, 7, 1, 2}},
		{"a sequence of sequences", []int{10002, 9}, []int{1, 2, 3, 1, 2, 9}},
		{"an empty sequence", []int{10000, 4, 10000}, []int{4}},
		{"only an empty sequence", []int{10000}, nil},
		{"once", []int{20101, 7, 8}, []int{7, 8}},
		{"two codes three times", []int{1, 20203, 2, 3, 4}, []int{1, 2, 3, 2, 3, 2, 3, 4}},
		{"three codes twice", []int{20302, 2, 3, 4, 5}, []int{2, 3, 4, 2, 3, 4, 5}},
		{"one after the other", []int{20102, 1, 20103, 2}, []int{1, 1, 2, 2, 2}},
		{"within each other", []int{20302, 1, 20102, 2, 3}, []int{1, 2, 2, 1, 2, 2, 3}},
		{"directly within each other", []int{20202, 20103, 5, 6}, []int{5, 5, 5, 5, 5, 5, 6}},
		{"three levels", []int{20302, 20202, 20102, 5, 6}, []int{5, 5, 5, 5, 5, 5, 5, 5, 6}},
		{"a sequence again and again", []int{20103, 10001}, []int{1, 2, 1, 2, 1, 2}},
		{"a replication within a sequence", []int{10003}, []int{4, 5, 4, 5, 6}},
		{"a sequence with all of it", []int{19999, 7}, []int{4, 5, 4, 5, 6, 1, 2, 3, 1, 2, 1, 2, 3, 1, 2, 7}},
		{"nineteen codes twenty times", append([]int{21920, 8}, slices.Repeat([]int{10000}, 18)...), slices.Repeat([]int{8}, 20)},
	} {
		checkExpand(t, c.name, x, c.codes, c.want, api.OK)
		if got, e := expected(x, c.codes); !slices.Equal(got, c.want) || e != api.OK {
			t.Errorf("%s: this test expects %v, %d", c.name, got, e)
		}
	}
}

// P8.2: which error each code has.
func TestExpandOfEachCode(t *testing.T) {
	x := sample()
	for _, code := range someCodes() {
		want, fault := []int(nil), api.ErrRange
		switch kind[code] {
		case "entry", "sequence":
			fault = api.ErrMissing
		case "replication":
			fault = api.ErrShort
		}
		switch code {
		case 7, 8, 9999:
			want, fault = []int{code}, api.OK
		case 10001:
			want, fault = []int{7, 8}, api.OK
		case 10002:
			want, fault = []int{7, 8, 9999, 9999}, api.OK
		case 10003:
			fault = api.OK
		}
		checkExpand(t, "one code", x, []int{code}, want, fault)
	}
}

// P8.2: how many codes each replication needs, and how often it takes them.
func TestExpandOfReplications(t *testing.T) {
	x := numbered(sequence(10000))
	for count := 1; count <= 20; count++ {
		for times := 1; times <= 20; times++ {
			for following := range 20 {
				code := 20000 + 100*count + times
				codes := append([]int{code, 4}, slices.Repeat([]int{10000}, 19)...)[:following+1]
				want, fault := slices.Repeat([]int{4}, times), api.OK
				if count > following {
					want, fault = nil, api.ErrShort
				}
				checkExpand(t, "a replication", x, codes, want, fault)
			}
		}
	}
}

// P8.2: the errors, in the order of the codes.
func TestExpandOfFaults(t *testing.T) {
	x := numbered(sequence(10001, 1, 2), sequence(10002, 8888), sequence(10003, 20202, 1), sequence(10004, 10008), sequence(10005, 10005, 8888), sequence(10006, 8888, 10006), sequence(10007))
	for _, c := range []struct {
		name  string
		codes []int
		want  api.Errno
	}{
		{"no code", []int{1, 20000}, api.ErrRange},
		{"code 0", []int{0}, api.ErrRange},
		{"no entry", []int{1, 10}, api.ErrMissing},
		{"no sequence", []int{1, 19999}, api.ErrMissing},
		{"no entry within a sequence", []int{10002}, api.ErrMissing},
		{"no sequence within a sequence", []int{10004}, api.ErrMissing},
		{"too short", []int{20201, 1}, api.ErrShort},
		{"too short at the end", []int{1, 20101}, api.ErrShort},
		{"too short within a sequence, though codes follow it", []int{10003, 1, 2}, api.ErrShort},
		{"too short within a replication, though codes follow it", []int{20202, 20202, 1, 2, 3}, api.ErrShort},
		{"a replication as the last code of one", []int{20102, 20101, 1}, api.ErrShort},
		{"range first", []int{20000, 8888, 20201, 1}, api.ErrRange},
		{"missing first", []int{8888, 20000, 20201, 1}, api.ErrMissing},
		{"short first", []int{20501, 20000, 8888, 1}, api.ErrShort},
		{"the first code before the second", []int{10002, 20000}, api.ErrMissing},
		{"all of a sequence before the next code", []int{10001, 20000, 10002}, api.ErrRange},
		{"all of a replication before the next code", []int{20102, 8888, 20000}, api.ErrMissing},
		{"codes of a replication that is too short are not expanded", []int{20302, 20000, 8888}, api.ErrShort},
		{"itself before a code that is missing", []int{10005}, api.ErrLimit},
		{"itself behind a code that is missing", []int{10006}, api.ErrMissing},
		{"too many codes before all others", append([]int{20000}, slices.Repeat([]int{10007}, 20)...), api.ErrLimit},
		{"too many codes though they have no entries", slices.Repeat([]int{10007}, 21), api.ErrLimit},
		{"very many codes", slices.Repeat([]int{20000}, 100000), api.ErrLimit},
	} {
		checkExpand(t, c.name, x, c.codes, nil, c.want)
		if _, e := expected(x, c.codes); e != c.want {
			t.Errorf("%s: this test expects %d", c.name, e)
		}
	}
	checkExpand(t, "twenty codes", x, slices.Repeat([]int{10007}, 20), nil, api.OK)
}

// P8.2: the error of Validate comes before all others.
func TestExpandOfInvalidTables(t *testing.T) {
	long := slices.Repeat([]int{7}, 21)
	for want, x := range map[api.Errno]api.Table{
		api.ErrRange:     with(sample(), func(t *api.Table) { t.Version = 0 }),
		api.ErrLimit:     with(sample(), func(t *api.Table) { t.Entries = manyEntries(41) }),
		api.ErrKind:      with(sample(), func(t *api.Table) { t.Entries[2].Element = 12 }),
		api.ErrDuplicate: with(sample(), func(t *api.Table) { t.Entries = append(t.Entries, good(8)) }),
	} {
		for _, codes := range [][]int{nil, {7}, {10001}, {0}, {8888}, {20202}, long} {
			checkExpand(t, "a table that is not valid", x, codes, nil, want)
		}
	}
	x := with(sample(), func(t *api.Table) { t.Sequences = append(t.Sequences, sequence(10009, 7, 20000)) })
	for _, codes := range [][]int{nil, {7}, {8888}, {20202}, long} {
		checkExpand(t, "a sequence that is not valid", x, codes, nil, api.ErrRange)
	}
	checkExpand(t, "too many codes", sample(), long, nil, api.ErrLimit)
	checkExpand(t, "too many codes without entries", api.Table{Version: 1}, long, nil, api.ErrLimit)
}

// P8.2: up to MaxExpanded entries.
func TestExpandOfManyEntries(t *testing.T) {
	x := numbered(sequence(10001, 20320, 1, 2, 3), sequence(10002, 20320, 1, 2, 3, 4))
	sixty := slices.Repeat([]int{1, 2, 3}, 20)
	checkExpand(t, "60", x, []int{20320, 1, 2, 3}, sixty, api.OK)
	checkExpand(t, "60 from a sequence", x, []int{10001}, sixty, api.OK)
	checkExpand(t, "61", x, []int{20320, 1, 2, 3, 4}, nil, api.ErrLimit)
	checkExpand(t, "61 from a sequence", x, []int{10002}, nil, api.ErrLimit)
	checkExpand(t, "61, the first one before", x, []int{4, 10001}, nil, api.ErrLimit)
	checkExpand(t, "80", x, []int{20420, 1, 2, 3, 4}, nil, api.ErrLimit)
	checkExpand(t, "60 and one that is missing", x, []int{10001, 8888}, nil, api.ErrMissing)
	checkExpand(t, "60 and no code", x, []int{10001, 20000}, nil, api.ErrRange)
	checkExpand(t, "61 before one that is missing", x, []int{10002, 8888}, nil, api.ErrLimit)
	checkExpand(t, "61 before no code", x, []int{10001, 1, 20000}, nil, api.ErrLimit)
	checkExpand(t, "60 and a replication that is too short", x, []int{10001, 20102}, nil, api.ErrShort)
}

// P8.2: up to MaxTaken codes, where replications, sequences and the codes of both count each time, also if no entries come from them.
func TestExpandOfManyTakenCodes(t *testing.T) {
	x := numbered(sequence(10000), sequence(10001, slices.Repeat([]int{10000}, 20)...), sequence(10002, 10000, 10000, 10000, 8888))
	// 10001 is 21 codes with its own; the replication is 1 + 20 * 21 = 421 codes, and the three behind it are 63.
	first := []int{20120, 10001, 10001, 10001, 10001}
	behind := func(codes ...int) []int { return append(slices.Clone(first), codes...) }
	for times := 1; times <= 20; times++ {
		fault := api.OK
		if 484+1+times > 500 {
			fault = api.ErrLimit
		}
		checkExpand(t, "many codes", x, behind(20100+times, 10000), nil, fault)
	}
	for _, c := range []struct {
		name  string
		codes []int
		want  []int
		e     api.Errno
	}{
		{"484 codes", nil, nil, api.OK},
		{"499 codes, the last ones one by one", slices.Repeat([]int{10000}, 15), nil, api.OK},
		{"an entry as the code 500", []int{20114, 10000, 1}, []int{1}, api.OK},
		{"a missing one as the code 500", []int{20114, 10000, 8888}, nil, api.ErrMissing},
		{"no code as the code 500", []int{20114, 10000, 20000}, nil, api.ErrRange},
		{"one that is too short as the code 500", []int{20114, 10000, 20101}, nil, api.ErrShort},
		{"a missing one in a sequence as the code 500", []int{20110, 10000, 10002}, nil, api.ErrMissing},
		{"a missing one in a sequence as the code 501", []int{20111, 10000, 10002}, nil, api.ErrLimit},
		{"a sequence of 21 codes", []int{10001}, nil, api.ErrLimit},
		{"an entry as the code 501", []int{20115, 10000, 1}, nil, api.ErrLimit},
		{"an empty sequence as the code 501", []int{20115, 10000, 10000}, nil, api.ErrLimit},
		{"a missing entry as the code 501", []int{20115, 10000, 8888}, nil, api.ErrLimit},
		{"a missing sequence as the code 501", []int{20115, 10000, 19999}, nil, api.ErrLimit},
		{"no code as the code 501", []int{20115, 10000, 20000}, nil, api.ErrLimit},
		{"one that is too short as the code 501", []int{20115, 10000, 20101}, nil, api.ErrLimit},
	} {
		checkExpand(t, c.name, x, behind(c.codes...), c.want, c.e)
	}
}

// P8.2: expansions that would be without end, or nearly so.
func TestExpandEnds(t *testing.T) {
	x := numbered(sequence(10020), sequence(10021, append([]int{21920}, slices.Repeat([]int{10021}, 19)...)...), sequence(10022, 10023), sequence(10023, 20101, 10022), sequence(10024, slices.Repeat([]int{10024}, 20)...))
	for i := range 20 {
		x.Sequences = append(x.Sequences, sequence(10000+i, slices.Repeat([]int{10001 + i}, 20)...))
	}
	for _, codes := range [][]int{{10000}, {10015}, {10021}, {10022}, {10023}, {10024}, {20120, 10000}, slices.Repeat([]int{10024}, 20)} {
		checkExpand(t, "without end", x, codes, nil, api.ErrLimit)
	}
	// Each replication takes all that follows: the last code counts 20^19 times.
	for times := 2; times <= 20; times++ {
		codes := []int{10020}
		for i := 1; i < 20; i++ {
			codes = append([]int{20000 + 100*i + times}, codes...)
		}
		checkExpand(t, "replications of all that follows", x, codes, nil, api.ErrLimit)
	}
}

// chain returns so many sequences, each of which contains the next one with other codes before and behind it, and the last one the codes last.
func chain(n int, before, behind []int, last ...int) []api.Sequence {
	var l []api.Sequence
	for i := range n - 1 {
		l = append(l, sequence(10001+i, slices.Concat(before, []int{10002 + i}, behind)...))
	}
	return append(l, sequence(10000+n, last...))
}

// P8.2: a sequence may be within 20 others.
func TestExpandOfNestedSequences(t *testing.T) {
	for n := 1; n <= 30; n++ {
		fault := api.OK
		if n > 21 {
			fault = api.ErrLimit
		}
		five := func(times int) []int {
			if fault != api.OK {
				return nil
			}
			return slices.Repeat([]int{5}, times)
		}
		x := numbered(chain(n, nil, nil, 5)...)
		checkExpand(t, "a chain", x, []int{10001}, five(1), fault)
		checkExpand(t, "a chain twice", x, []int{10001, 10001}, five(2), fault)
		checkExpand(t, "a chain in replications", x, []int{20303, 20202, 20101, 10001}, five(6), fault)
		checkExpand(t, "the end of a chain", x, []int{10000 + n}, []int{5}, api.OK)
		checkExpand(t, "a chain behind a code", x, []int{5, 10001}, five(2), fault)
		checkExpand(t, "a chain without entries", numbered(chain(n, nil, nil)...), []int{10001}, nil, fault)
		checkExpand(t, "a chain of replications", numbered(chain(n, []int{20101}, nil, 5)...), []int{10001}, five(1), fault)
		checkExpand(t, "a chain with codes before it", numbered(chain(n, []int{5}, nil, 5)...), []int{10001}, five(n), fault)
		checkExpand(t, "a chain with codes behind it", numbered(chain(n, nil, []int{5}, 5)...), []int{10001}, five(n), fault)
	}
}

// P8.2: what comes before the sequence that is within too many others.
func TestExpandOfNestedFaults(t *testing.T) {
	for _, c := range []struct {
		name string
		n    int
		last []int
		want api.Errno
	}{
		{"a missing sequence", 21, []int{19999}, api.ErrMissing},
		{"a missing entry", 21, []int{8888}, api.ErrMissing},
		{"a replication", 21, []int{20201, 5}, api.ErrShort},
		{"a missing entry that is not reached", 22, []int{8888}, api.ErrLimit},
		{"a missing sequence that is not reached", 22, []int{19999}, api.ErrLimit},
		{"a replication that is not reached", 22, []int{20201, 5}, api.ErrLimit},
	} {
		checkExpand(t, c.name, numbered(chain(c.n, nil, nil, c.last...)...), []int{10001}, nil, c.want)
	}
	x := numbered(chain(22, []int{8888}, nil, 5)...)
	checkExpand(t, "a missing entry before", x, []int{10001}, nil, api.ErrMissing)
	x = numbered(chain(22, nil, []int{8888}, 5)...)
	checkExpand(t, "a missing entry behind", x, []int{10001}, nil, api.ErrLimit)
}

// anyCode returns a random code: of one of the entries, of one of the sequences from the first one on, of a replication that up to so many codes follow, or of anything.
func anyCode(random *rand.Rand, first, following int) int {
	switch n := random.Intn(100); {
	case n < 40 || n < 60 && following == 0:
		return 1 + random.Intn(9)
	case n < 84:
		return first + random.Intn(max(10010-first, 1))
	case n < 98:
		return 20000 + 100*(1+random.Intn(max(min(following, 3), 1))) + 1 + random.Intn(6)
	}
	return []int{10, 10050, 10001, 10000, 1, 20101 + 100*random.Intn(20) + random.Intn(20)}[random.Intn(6)]
}

// anyCodes returns a list of up to so many random codes.
func anyCodes(random *rand.Rand, first, longest int) []int {
	var l []int
	for following := random.Intn(longest + 1); following > 0; following-- {
		l = append(l, anyCode(random, first, following-1))
	}
	return l
}

// anyTable returns a random valid table, in which few sequences contain themselves.
func anyTable(random *rand.Rand) api.Table {
	x := numbered()
	for i := range 10 {
		x.Sequences = append(x.Sequences, sequence(10000+i, anyCodes(random, 10001+i, 6)...))
	}
	random.Shuffle(len(x.Sequences), func(i, k int) { x.Sequences[i], x.Sequences[k] = x.Sequences[k], x.Sequences[i] })
	random.Shuffle(len(x.Entries), func(i, k int) { x.Entries[i], x.Entries[k] = x.Entries[k], x.Entries[i] })
	return x
}

// P8.2: random lists, with what the chapter's words say of them.
func TestExpandOfAnyCodes(t *testing.T) {
	random := rand.New(rand.NewSource(4))
	count := map[api.Errno]int{}
	for range 20000 {
		x, codes := anyTable(random), anyCodes(random, 10000, 6+random.Intn(17))
		if random.Intn(4) == 0 {
			codes = append(codes, 20000+random.Intn(101))
		}
		want, fault := expected(x, codes)
		count[fault]++
		checkExpand(t, "random codes", x, codes, want, fault)
		if t.Failed() {
			t.Fatalf("the table is %v", x)
		}
	}
	for _, e := range []api.Errno{api.OK, api.ErrLimit, api.ErrRange, api.ErrMissing, api.ErrShort} {
		if count[e] < 500 {
			t.Errorf("only %d lists have the error %d", count[e], e)
		}
	}
}

// The consequence: the expansion of two lists one after the other.
func TestExpandOfTwoLists(t *testing.T) {
	random := rand.New(rand.NewSource(5))
	count := 0
	for range 20000 {
		x, a, b := anyTable(random), anyCodes(random, 10000, 5), anyCodes(random, 10000, 5)
		first, e := Expand(x, a)
		second, f := Expand(x, b)
		both, g := Expand(x, slices.Concat(a, b))
		if e != api.OK || f != api.OK || g != api.OK {
			continue
		}
		count++
		if !slices.Equal(both, slices.Concat(first, second)) {
			t.Fatalf("Expand of %v and %v with %v = %v", a, b, x, both)
		}
	}
	if count < 2000 {
		t.Errorf("only %d pairs have expansions", count)
	}
}

// Rule 2: the result is new memory.
func TestExpandReturnsNewMemory(t *testing.T) {
	x := sample()
	got, _ := Expand(x, []int{10002, 7, 7})
	for i := range got {
		got[i] = api.Entry{}
	}
	if !same(x, sample()) {
		t.Errorf("a change of the result changes the table to %v", x)
	}
}
