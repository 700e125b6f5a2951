package binary

import (
	"fmt"
	"math/rand"
	"slices"
	"testing"

	"synoptic/api"
	"synoptic/table"
)

// checkEncode compares what Encode returns for a message with what is expected.
func checkEncode(t *testing.T, name string, m api.Message, l []api.Table, want []byte, fault api.Errno) {
	t.Helper()
	got, e := Encode(m, l)
	if !slices.Equal(got, want) || e != fault {
		t.Errorf("%s: Encode(%v) = %v, %d, not %v, %d", name, m, got, e, want, fault)
	}
}

// checkFault compares the errors that Encode and Rounded return for a message with the expected one.
func checkFault(t *testing.T, name string, m api.Message, fault api.Errno) {
	t.Helper()
	checkEncode(t, name, m, tables(), nil, fault)
	if got, e := Rounded(m, tables()); e != fault || !equal(got, api.Message{}) {
		t.Errorf("%s: Rounded(%v) = %v, %d, not %d", name, m, got, e, fault)
	}
}

func validMessages() []api.Message {
	first := api.Message{Table: 1, Centre: "AAAA", Reports: []api.Report{report(api.Land, "00000", 0, api.Place{}), report(api.Land, "ZZZZZ", 32767, api.Place{})}}
	last := api.Message{Table: 2, Centre: "ZZZZ", Time: api.MaxMinute, Correction: 26, Codes: []int{5}, Reports: []api.Report{
		report(api.Buoy, "99999", api.MaxMinute, api.Place{Face: 19, A: 280, B: 280, C: 280}, 3, 2499),
		report(api.Ship, "AAAAA", api.MaxMinute-32768, api.Place{A: 840}),
	}}
	return []api.Message{
		first, last,
		message(),
		message(land()),
		message(land(), ship(), buoy(), all()),
		message(all(), all(), land(), all()),
		message(slices.Repeat([]api.Report{ship()}, 60)...),
		with(message(buoy(), land()), func(m *api.Message) { m.Codes = []int{2, 20201, 1, 10000, 20101, 4} }),
		with(message(buoy()), func(m *api.Message) { m.Codes = []int{10000, 10000, 10001} }),
		with(message(buoy()), func(m *api.Message) { m.Codes = slices.Repeat([]int{10000}, 20) }),
		rough(),
		rough(land(), ship(), buoy()),
		with(rough(buoy(), report(api.Land, "01234", noon, api.Place{}, 1, 13110-5000)), func(m *api.Message) { m.Codes = []int{9} }),
	}
}

// P9.1: the examples of the chapter, byte by byte.
func TestEncodeOfExamples(t *testing.T) {
	m := api.Message{Table: 1, Centre: "EDZW"}
	checkEncode(t, "nothing", m, tables(), []byte{'S', 'Y', 'N', 'B', 0, 0, 27, 1, 'E', 'D', 'Z', 'W', 0, 0, 0, 0, 0, 0, 0, 2, 146, 0, 0, '7', '7', '7', '7'}, api.OK)
	m.Reports = []api.Report{report(api.Land, "01234", 0, api.Place{}), report(api.Land, "01234", 0, api.Place{})}
	checkEncode(t, "two blocks of 11 bytes", m, tables(), []byte{
		'S', 'Y', 'N', 'B', 0, 0, 49, 1, 'E', 'D', 'Z', 'W', 0, 0, 0, 0, 0, 0, 2, 2, 170, 0, 0,
		64, 4, 32, 196, 128, 0, 0, 0, 0, 0, 168,
		64, 4, 32, 196, 128, 0, 0, 0, 0, 0, 169,
		'7', '7', '7', '7'}, api.OK)
	// The time 14000000 is 0x00d59f80, the report's time 32748 is 0x7fec; the codes stand for 426 (10 bits) and 3 (2 bits: none).
	m = api.Message{Table: 2, Centre: "KWBC", Time: noon, Correction: 3, Codes: []int{9, 7}, Reports: []api.Report{report(api.Ship, "Z0000", noon-20, api.Place{Face: 5, A: 420, B: 420}, 1, 10132)}}
	want := []byte{'S', 'Y', 'N', 'B', 0, 0, 43, 2, 'K', 'W', 'B', 'C', 0x00, 0xd5, 0x9f, 0x80, 3, 2, 1, 4, 138, 0, 9, 0, 7, 0, 16}
	block := packed("10" + "100011" + "000000" + "000000" + "000000" + "000000" + "0111111111101100" + "00101" + "0110100100" + "0110100100" + "0110101010" + "11" + "000")
	want = append(append(want, block...), byte(total(block)), '7', '7', '7', '7')
	checkEncode(t, "a ship", m, tables(), want, api.OK)
}

// P9.1
func TestEncode(t *testing.T) {
	for _, m := range validMessages() {
		checkEncode(t, "valid", m, tables(), bytesOf(m), api.OK)
		empty := copyOf(m)
		for i := range empty.Reports {
			if len(empty.Reports[i].Readings) == 0 {
				empty.Reports[i].Readings = []api.Reading{}
			}
		}
		if len(m.Codes) == 0 {
			empty.Codes = []int{}
		}
		if len(m.Reports) == 0 {
			empty.Reports = []api.Report{}
		}
		checkEncode(t, "empty lists", empty, tables(), bytesOf(m), api.OK)
	}
	random := rand.New(rand.NewSource(1))
	for range 2000 {
		m := anyMessage(random)
		checkEncode(t, "random", m, tables(), bytesOf(m), api.OK)
	}
}

// P9.1: no message can reach MaxMessage, so this limit has no code.
func TestEncodeOfTheLongestMessage(t *testing.T) {
	x := api.Table{Version: 1, Sequences: []api.Sequence{sequence(10000)}}
	m := message(slices.Repeat([]api.Report{all()}, 60)...)
	m.Codes = slices.Repeat([]int{10000}, 9)
	for code := 1; code <= 11; code++ {
		x.Entries = append(x.Entries, entry(code, code, 24, 1, -100000))
		m.Codes = append(m.Codes, code)
	}
	b, e := Encode(m, []api.Table{x})
	if e != api.OK || len(b) != 27+2*20+60*44 || len(b) > api.MaxMessage {
		t.Errorf("the longest message has %d bytes and the error %d", len(b), e)
	}
	if got, damaged, e := Decode(b, []api.Table{x}); e != api.OK || damaged != nil || !equal(got, m) {
		t.Errorf("Decode of the longest message = %v, %v, %d", got, damaged, e)
	}
}

// P9.1: the first table with the version counts.
func TestEncodeChoosesTheTable(t *testing.T) {
	other := exact()
	other.Entries[0].Width = 20
	m := with(message(land()), func(m *api.Message) { m.Codes = []int{1, 2} })
	long := rawOf(m, meaning(other, m.Codes)).bytes()
	checkEncode(t, "the first one", m, []api.Table{coarse(), exact(), other}, bytesOf(m), api.OK)
	checkEncode(t, "the first one", m, []api.Table{other, exact()}, long, api.OK)
	checkEncode(t, "no table", m, nil, nil, api.ErrNone)
	checkEncode(t, "another version", m, []api.Table{coarse()}, nil, api.ErrNone)
	// A table that is not valid is found, and then is at fault.
	for _, version := range []int{0, -1, 100, 257, 1 << 40} {
		x := exact()
		x.Version = version
		checkEncode(t, "a version that does not exist", with(m, func(m *api.Message) { m.Table = version }), []api.Table{x}, nil, api.ErrRange)
	}
	faulty := exact()
	faulty.Entries[10].Element = 12
	checkEncode(t, "a table that is not valid", m, []api.Table{faulty, exact()}, nil, api.ErrKind)
	checkEncode(t, "a table that is not valid", m, []api.Table{exact(), faulty}, bytesOf(m), api.OK)
}

// P9.1: the errors of the heading, of the codes and of the limits.
func TestEncodeOfFaults(t *testing.T) {
	fault := func(e api.Errno, name string, change func(m *api.Message)) {
		t.Helper()
		for _, m := range []api.Message{message(), message(land(), ship()), rough(), rough(buoy())} {
			checkFault(t, name, with(m, change), e)
		}
	}
	for _, centre := range []string{"", "E", "EDZ", "EDZWX", "edzw", "EDZw", "ED W", " EDZ", "EDZ ", "ED1W", "EDZ\n", "EDZ\x00", "ÄÖ", "EDÄ", "ED@W", "ED[W"} {
		fault(api.ErrSyntax, "centre", func(m *api.Message) { m.Centre = centre })
	}
	for _, minute := range []int{-1, api.MaxMinute + 1, 1 << 32, 1<<32 + noon, least, most} {
		fault(api.ErrRange, "time", func(m *api.Message) { m.Time = minute })
	}
	for _, correction := range []int{-1, 27, 256, 1 << 32, least, most} {
		fault(api.ErrRange, "correction", func(m *api.Message) { m.Correction = correction })
	}
	for _, length := range []int{21, 22, 256, 1000} {
		fault(api.ErrLimit, "codes", func(m *api.Message) { m.Codes = slices.Repeat([]int{10000}, length) })
		fault(api.ErrLimit, "codes", func(m *api.Message) { m.Codes = make([]int, length) })
	}
	for _, length := range []int{61, 62, 256, 1000} {
		fault(api.ErrLimit, "reports", func(m *api.Message) { m.Reports = slices.Repeat([]api.Report{buoy()}, length) })
		fault(api.ErrLimit, "reports", func(m *api.Message) { m.Reports = make([]api.Report, length) })
	}
	for _, version := range []int{0, -1, 3, 99, 100, 257, 1<<32 + 1, least, most} {
		fault(api.ErrNone, "table", func(m *api.Message) { m.Table = version })
	}
	for e, l := range map[api.Errno][][]int{
		api.ErrRange:     {{0}, {-1}, {20000}, {65536 + 1}, {most}, {9, 0}},
		api.ErrMissing:   {{99}, {9999}, {19999}, {20101, 9998}},
		api.ErrShort:     {{20101}, {20202, 7}},
		api.ErrDuplicate: {{9, 9}, {20102, 9}, {9, 7, 9}},
	} {
		for _, codes := range l {
			checkFault(t, "codes", with(rough(buoy()), func(m *api.Message) { m.Codes = codes }), e)
		}
	}
	checkFault(t, "two entries of an element", with(rough(buoy()), func(m *api.Message) { m.Codes = []int{8, 9, 6} }), api.ErrDuplicate)
	checkFault(t, "an element in two sequences", with(message(), func(m *api.Message) { m.Codes = []int{10001, 10003} }), api.ErrDuplicate)
	checkFault(t, "too many entries", with(message(), func(m *api.Message) { m.Codes = []int{20120, 1, 20120, 2, 20120, 3, 4} }), api.ErrLimit)
}

// P9.1: the errors of a report, at each place in the list.
func TestEncodeOfReportFaults(t *testing.T) {
	late, early := land(), land()
	late.Time, early.Time = noon+32768, noon-32769
	for e, l := range map[api.Errno][]api.Report{
		api.ErrKind:   {report(0, "01234", noon, api.Place{}), report(4, "", -1, api.Place{}), report(api.Land, "01234", 0, api.Place{}, 12, 0)},
		api.ErrSyntax: {report(api.Land, "0123", 0, api.Place{}), report(api.Land, "0123a", noon, api.Place{})},
		api.ErrRange: {
			late, early, report(api.Land, "01234", 0, api.Place{}), report(api.Land, "01234", api.MaxMinute, api.Place{}, 3, 2000),
			report(api.Land, "01234", -1, api.Place{}), report(api.Land, "01234", most, api.Place{}), report(api.Land, "01234", least, api.Place{}),
			report(api.Land, "01234", noon, api.Place{C: 840}), report(api.Ship, "01234", noon, api.Place{}), report(api.Ship, "01234", noon, api.Place{Face: 14, B: 420, C: 420}),
			report(api.Land, "01234", noon, api.Place{}, 1, 11001),
			// The coarse table has no numbers for these.
			report(api.Land, "01234", noon, api.Place{}, 5, -501), report(api.Land, "01234", noon, api.Place{}, 1, 10132, 5, -1000),
			report(api.Land, "01234", noon, api.Place{}, 3, 2500), report(api.Land, "01234", noon, api.Place{}, 3, 3300, 4, 0),
		},
		api.ErrOrder:   {report(api.Land, "01234", 0, api.Place{}, 2, 2800, 1, 10132), report(api.Land, "01234", noon, api.Place{}, 1, 10132, 1, 10132)},
		api.ErrMissing: {report(api.Land, "01234", noon, api.Place{}, 6, 1000), report(api.Land, "01234", noon, api.Place{}, 1, 10132, 11, 2800), report(api.Land, "01234", noon, api.Place{}, 5, -501, 7, 2500)},
	} {
		for _, r := range l {
			for at := range 4 {
				m := with(rough(), func(m *api.Message) {
					m.Codes = []int{8, 9, 7, 5, 4}
					m.Reports = slices.Insert([]api.Report{land(), buoy(), ship()}, at, r)
				})
				checkFault(t, "report", m, e)
				// The first report at fault decides.
				m.Reports = append(m.Reports, report(0, "", 0, api.Place{}), report(api.Land, "01234", noon, api.Place{}, 8, 2500), late)
				checkFault(t, "reports", m, e)
			}
		}
	}
	checkFault(t, "no codes", with(message(land()), func(m *api.Message) { m.Codes = nil }), api.ErrMissing)
	checkFault(t, "no codes", with(message(buoy(), all()), func(m *api.Message) { m.Codes = []int{10000} }), api.ErrMissing)
}

// P9.1: the ends of the range of a report's time.
func TestEncodeOfTimesOfReports(t *testing.T) {
	for _, time := range []int{0, 1, 32767, 32768, noon, api.MaxMinute - 32768, api.MaxMinute - 1, api.MaxMinute} {
		for _, distance := range []int{-65536, -32770, -32769, -32768, -32767, -1, 0, 1, 32766, 32767, 32768, 32769, 65536, 98304} {
			m := message(buoy())
			m.Time, m.Reports[0].Time = time, time+distance
			if r := m.Reports[0]; distance < -32768 || distance > 32767 || r.Time < 0 || r.Time > api.MaxMinute {
				checkFault(t, "far", m, api.ErrRange)
			} else {
				checkEncode(t, "near", m, tables(), bytesOf(m), api.OK)
			}
		}
	}
}

// P9.1: of all combinations of faults, the first one named decides.
func TestEncodeReturnsTheFirstError(t *testing.T) {
	faults := []struct {
		e      api.Errno
		change func(m *api.Message)
	}{
		{api.ErrSyntax, func(m *api.Message) { m.Centre = "kwbc" }},
		{api.ErrRange, func(m *api.Message) { m.Time = -1 }},
		{api.ErrRange, func(m *api.Message) { m.Correction = 27 }},
		{api.ErrLimit, func(m *api.Message) { m.Codes = append(m.Codes, slices.Repeat([]int{4}, 20)...) }},
		{api.ErrLimit, func(m *api.Message) { m.Reports = append(m.Reports, slices.Repeat([]api.Report{buoy()}, 60)...) }},
		{api.ErrNone, func(m *api.Message) { m.Table = 3 }},
		{api.ErrMissing, func(m *api.Message) { m.Codes = append(m.Codes, 99) }},
		{api.ErrDuplicate, func(m *api.Message) { m.Codes = append([]int{9}, m.Codes...) }},
		{api.ErrKind, func(m *api.Message) { m.Reports[0].Kind = 4 }},
		{api.ErrRange, func(m *api.Message) { m.Reports[0].Time += 40000 }},
		{api.ErrMissing, func(m *api.Message) { m.Reports[0].Readings[1] = api.Reading{Element: 11, Value: 2800} }},
		{api.ErrRange, func(m *api.Message) {
			m.Reports[0].Readings = slices.Insert(m.Reports[0].Readings, 1, api.Reading{Element: 3, Value: 2500})
		}},
		{api.ErrSyntax, func(m *api.Message) { m.Reports[1].Name = "" }},
	}
	for set := 1; set < 1<<len(faults); set++ {
		want := api.OK
		m := with(rough(ship(), land()), func(m *api.Message) { m.Codes = append(m.Codes, 5) })
		for i, f := range faults {
			if set>>i&1 == 1 {
				if want == api.OK {
					want = f.e
				}
				f.change(&m)
			}
		}
		checkFault(t, fmt.Sprintf("the faults %b", set), m, want)
	}
}

// P9.3: readings with greater Scales.
func TestRounded(t *testing.T) {
	m := rough(
		report(api.Land, "01234", noon, api.Place{}, 1, 10132, 2, 2300, 4, -57),
		report(api.Land, "01235", noon, api.Place{}, 1, 8004, 2, 3299, 4, 999),
		report(api.Ship, "DELTA", noon, api.Place{C: 840}, 1, 8005, 2, 3300, 4, -1000),
		report(api.Land, "01236", noon, api.Place{}, 4, -991),
		report(api.Land, "01237", noon, api.Place{}),
		// Rounded to a value that is not within the range of the element.
		report(api.Land, "01238", noon, api.Place{}, 1, 11000, 2, 1800),
	)
	want := rough(
		report(api.Land, "01234", noon, api.Place{}, 1, 10130, 2, 2300, 4, -60),
		report(api.Land, "01235", noon, api.Place{}, 1, 8000, 2, 2300, 4, 990),
		report(api.Ship, "DELTA", noon, api.Place{C: 840}, 1, 8005, 2, 3300, 4, -1000),
		report(api.Land, "01236", noon, api.Place{}, 4, -1000),
		report(api.Land, "01237", noon, api.Place{}),
		report(api.Land, "01238", noon, api.Place{}, 1, 11000, 2, 1300),
	)
	if got, e := Rounded(m, tables()); e != api.OK || !equal(got, want) {
		t.Errorf("Rounded = %v, %d, not %v", got, e, want)
	}
	for _, m := range validMessages() {
		got, e := Rounded(m, tables())
		if m.Table == 1 && !equal(got, m) || e != api.OK {
			t.Errorf("Rounded(%v) = %v, %d", m, got, e)
		}
		if len(got.Reports) != len(m.Reports) || !slices.Equal(got.Codes, m.Codes) {
			t.Errorf("Rounded(%v) = %v", m, got)
		}
	}
}

// P9.3: with random tables, the values are those of table.Decode.
func TestRoundedOfRandomTables(t *testing.T) {
	random := rand.New(rand.NewSource(2))
	for range 2000 {
		x := anyTable(random)
		m := anyMessage(random)
		want := copyOf(m)
		fault := api.OK
		for _, r := range want.Reports {
			for i, reading := range r.Readings {
				own := x.Entries[reading.Element-1]
				n, e := table.Encode(own, reading.Value)
				if e != api.OK {
					fault = e
				}
				r.Readings[i].Value, _ = table.Decode(own, n)
			}
		}
		if fault != api.OK {
			want = api.Message{}
		}
		if got, e := Rounded(m, []api.Table{x}); e != fault || !equal(got, want) {
			t.Fatalf("Rounded(%v) with the entries %v = %v, %d, not %v, %d", m, x.Entries, got, e, want, fault)
		}
	}
}

// anyTable returns a table with a random entry for each element, most of which have numbers for all values.
func anyTable(random *rand.Rand) api.Table {
	x := exact()
	for i := range x.Entries {
		e := &x.Entries[i]
		e.Scale = 1 + random.Intn(100)
		e.Least -= random.Intn(2 * e.Scale)
		e.Width += random.Intn(24 - e.Width)
		if random.Intn(100) == 0 {
			e.Width = 2 + random.Intn(8)
		}
	}
	return x
}

// P9.3: each message differs from all others in one field or more.
func TestSame(t *testing.T) {
	var l []api.Message
	add := func(change func(m *api.Message)) {
		l = append(l, with(message(land(), ship()), change))
	}
	add(func(m *api.Message) {})
	add(func(m *api.Message) { m.Table = 2 })
	add(func(m *api.Message) { m.Table = least })
	add(func(m *api.Message) { m.Centre = "EDZV" })
	add(func(m *api.Message) { m.Centre = "" })
	add(func(m *api.Message) { m.Time++ })
	add(func(m *api.Message) { m.Time = most })
	add(func(m *api.Message) { m.Correction = 1 })
	add(func(m *api.Message) { m.Correction = -1 })
	add(func(m *api.Message) { m.Codes = nil })
	add(func(m *api.Message) { m.Codes = []int{10001, 10002} })
	add(func(m *api.Message) { m.Codes = []int{10002, 10001} })
	add(func(m *api.Message) { m.Codes = []int{10001} })
	add(func(m *api.Message) { m.Codes = append(m.Codes, 0) })
	add(func(m *api.Message) { m.Reports = nil })
	add(func(m *api.Message) { m.Reports = m.Reports[:1] })
	add(func(m *api.Message) { m.Reports = m.Reports[1:] })
	add(func(m *api.Message) { m.Reports = append(m.Reports, api.Report{}) })
	add(func(m *api.Message) { slices.Reverse(m.Reports) })
	add(func(m *api.Message) { m.Reports[0].Kind = 0 })
	add(func(m *api.Message) { m.Reports[0].Name = "01235" })
	add(func(m *api.Message) { m.Reports[1].Time++ })
	add(func(m *api.Message) { m.Reports[1].Place.C++ })
	add(func(m *api.Message) { m.Reports[1].Readings = nil })
	add(func(m *api.Message) { m.Reports[1].Readings[1].Value++ })
	for i, a := range l {
		for k, b := range l {
			if Same(a, copyOf(b)) != (i == k) {
				t.Errorf("Same(%v, %v) = %v", a, b, i != k)
			}
		}
	}
}

// P9.3 and rule 1
func TestSameOfEmptyLists(t *testing.T) {
	none, empty := message(buoy()), message(buoy())
	none.Codes, empty.Codes = nil, []int{}
	empty.Reports[0].Readings = []api.Reading{}
	if !Same(none, empty) || !Same(empty, none) {
		t.Errorf("no codes or readings and an empty list are not the same")
	}
	if !Same(api.Message{}, api.Message{Codes: []int{}, Reports: []api.Report{}}) {
		t.Errorf("no reports and an empty list are not the same")
	}
}

// Rule 2
func TestArgumentsStayAsTheyAre(t *testing.T) {
	l := append(validMessages(), rough(land(), report(0, "", 0, api.Place{})), with(message(), func(m *api.Message) { m.Codes = []int{1, 1} }))
	for _, m := range l {
		given := tables()
		before := fmt.Sprint(m, given)
		b, _ := Encode(m, given)
		Same(m, m)
		rounded, _ := Rounded(m, given)
		spoil(rounded)
		original := slices.Clone(b)
		decoded, _, _ := Decode(b, given)
		spoil(decoded)
		if fmt.Sprint(m, given) != before || !slices.Equal(b, original) {
			t.Errorf("%s became %v, %v", before, m, given)
		}
	}
}

// Rule 2: what is returned does not change with the arguments.
func TestResultsShareNoMemory(t *testing.T) {
	for _, m := range validMessages() {
		given := tables()
		original := copyOf(m)
		rounded, _ := Rounded(m, given)
		b := bytesOf(m)
		decoded, _, _ := Decode(b, given)
		before := fmt.Sprint(rounded, decoded)
		spoil(original)
		spoil(m)
		for i := range b {
			b[i] = 255
		}
		for _, x := range given {
			clear(x.Entries)
			clear(x.Sequences)
		}
		if fmt.Sprint(rounded, decoded) != before {
			t.Errorf("%s became %v, %v", before, rounded, decoded)
		}
	}
}

// spoil overwrites all lists of a message, also behind their ends.
func spoil(m api.Message) {
	for _, r := range m.Reports {
		all := r.Readings[:cap(r.Readings)]
		for i := range all {
			all[i] = api.Reading{Element: -1, Value: -1}
		}
	}
	codes := m.Codes[:cap(m.Codes)]
	for i := range codes {
		codes[i] = -1
	}
	reports := m.Reports[:cap(m.Reports)]
	for i := range reports {
		reports[i] = report(-1, "spoilt", -1, api.Place{}, -1, -1)
	}
}
