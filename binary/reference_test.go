package binary

import (
	"fmt"
	"math/rand"
	"slices"
	"strconv"
	"strings"

	"synoptic/api"
	"synoptic/element"
	"synoptic/place"
)

const (
	least = -1 << 63
	most  = 1<<63 - 1
	// noon is the time of most messages of the tests.
	noon = 14000000
)

// report returns a report whose readings are given as elements and values in turn.
func report(kind int, name string, minute int, where api.Place, numbers ...int) api.Report {
	r := api.Report{Kind: kind, Name: name, Time: minute, Place: where}
	for i := 0; i < len(numbers); i += 2 {
		r.Readings = append(r.Readings, api.Reading{Element: numbers[i], Value: numbers[i+1]})
	}
	return r
}

func land() api.Report {
	return report(api.Land, "01234", noon+5, api.Place{}, 1, 10132, 2, 2800)
}

func ship() api.Report {
	return report(api.Ship, "DELTA", noon-20, api.Place{Face: 5, A: 420, B: 420}, 1, 10147, 4, -57)
}

func buoy() api.Report {
	return report(api.Buoy, "B00Z9", noon-1440, api.Place{Face: 19, A: 1, B: 20, C: 819})
}

// all returns a report with a reading of each element.
func all() api.Report {
	return report(api.Ship, "A1B2C", noon+32767, api.Place{C: 840}, 1, 11000, 2, 1800, 3, 3300, 4, -1000, 5, 1000, 6, 900, 7, 3200, 8, 2400, 9, 3000, 10, 4400, 11, 2900)
}

func entry(code, element, width, scale, least int) api.Entry {
	return api.Entry{Code: code, Element: element, Width: width, Scale: scale, Least: least}
}

func sequence(code int, codes ...int) api.Sequence {
	return api.Sequence{Code: code, Codes: codes}
}

// exact returns a table with an entry of the Scale 1 for each element, whose code is that of the element, and some sequences.
func exact() api.Table {
	t := api.Table{Version: 1}
	for code := 1; code <= 11; code++ {
		info, _ := element.Describe(code)
		t.Entries = append(t.Entries, entry(code, code, 12+code%3, 1, info.Least-code))
	}
	t.Sequences = []api.Sequence{
		sequence(10000),
		sequence(10001, 11, 9, 20101, 7, 5, 3, 1),
		sequence(10002, 10, 8, 20201, 6, 4, 10000, 2),
		sequence(10003, 10001, 10002),
	}
	return t
}

// coarse returns a table with entries of greater Scales, and two entries of the same element.
func coarse() api.Table {
	return api.Table{Version: 2, Entries: []api.Entry{
		entry(9, api.Pressure, 10, 5, 8000),
		entry(7, api.Air, 2, 1000, 1300),
		entry(8, api.East, 24, 10, -1000),
		entry(6, api.East, 12, 1, -1000),
		entry(5, api.Dew, 3, 100, 1800),
		entry(4, api.North, 11, 1, -500),
	}}
}

func tables() []api.Table {
	return []api.Table{coarse(), exact()}
}

// message returns a valid message with the exact table, whose codes are not in the order of the elements.
func message(reports ...api.Report) api.Message {
	return api.Message{Table: 1, Centre: "EDZW", Time: noon, Codes: []int{10003}, Reports: reports}
}

// rough returns a valid message with the coarse table.
func rough(reports ...api.Report) api.Message {
	return api.Message{Table: 2, Centre: "KWBC", Time: noon, Correction: 3, Codes: []int{8, 9, 7}, Reports: reports}
}

// copyOf returns a copy of a message that shares no memory with it.
func copyOf(m api.Message) api.Message {
	m.Codes = append([]int(nil), m.Codes...)
	var reports []api.Report
	for _, r := range m.Reports {
		r.Readings = append([]api.Reading(nil), r.Readings...)
		reports = append(reports, r)
	}
	m.Reports = reports
	return m
}

// with returns a copy of a message after a change.
func with(m api.Message, change func(m *api.Message)) api.Message {
	m = copyOf(m)
	change(&m)
	return m
}

// equal reports whether two messages are equal, by other means than the package.
func equal(a, b api.Message) bool {
	return fmt.Sprintf("%#v", copyOf(a)) == fmt.Sprintf("%#v", copyOf(b))
}

// meaning returns the entries for which the codes of the tests' messages stand, by code.
func meaning(t api.Table, codes []int) []api.Entry {
	var l []api.Entry
	for i := 0; i < len(codes); i++ {
		code := codes[i]
		switch {
		case code < 10000:
			k := slices.IndexFunc(t.Entries, func(e api.Entry) bool { return e.Code == code })
			l = append(l, t.Entries[k])
		case code < 20000:
			k := slices.IndexFunc(t.Sequences, func(s api.Sequence) bool { return s.Code == code })
			l = append(l, meaning(t, t.Sequences[k].Codes)...)
		case code%100 != 1:
			// The same element again would be a duplicate.
			panic("the tests repeat codes only once")
		}
	}
	return l
}

// text returns the text of a number with the width, in digits 0 and 1.
func text(n, width int) string {
	return fmt.Sprintf("%0*b", width, n)
}

// packed returns the bytes of a text of bits.
func packed(bits string) []byte {
	var b []byte
	for len(bits) > 0 {
		n, err := strconv.ParseUint(bits[:8], 2, 8)
		if err != nil {
			panic(err)
		}
		b = append(b, byte(n))
		bits = bits[8:]
	}
	return b
}

// padded returns a text of bits with zeros up to a whole number of bytes.
func padded(bits string) string {
	return bits + strings.Repeat("0", (8-len(bits)%8)%8)
}

// checked returns the bytes of a text of bits with the last byte of the block with an index.
func checked(bits string, index int) []byte {
	b := packed(padded(bits))
	n := index
	for _, c := range b {
		n += int(c)
	}
	return append(b, byte(n%256))
}

// bitsOf returns the text of the bits of a report, without those that follow up to a whole number of bytes.
func bitsOf(r api.Report, time int, entries []api.Entry) string {
	s := text(r.Kind, 2)
	for i := range 5 {
		n, err := strconv.ParseInt(r.Name[i:i+1], 36, 64)
		if err != nil {
			panic(err)
		}
		s += text(int(n), 6)
	}
	s += text(r.Time-time+32768, 16) + text(r.Place.Face, 5) + text(r.Place.A, 10) + text(r.Place.B, 10)
	for _, e := range entries {
		i := slices.IndexFunc(r.Readings, func(r api.Reading) bool { return r.Element == e.Element })
		if i < 0 {
			s += strings.Repeat("1", e.Width)
			continue
		}
		s += text((r.Readings[i].Value-e.Least)/e.Scale, e.Width)
	}
	return s
}

// raw is what the bytes of a message are made from, right or wrong.
type raw struct {
	beginning, end          string
	more, table             int // more: what the written number of bytes is too great
	centre                  string
	time, correction        int
	codes                   []int
	codeCount, count        int
	blocks                  []byte
	firstCheck, secondCheck int // what the check numbers are too great
	cut                     int // how many bytes are behind the first check number, without the end (negative: all)
}

// rawOf returns the parts of a valid message.
func rawOf(m api.Message, entries []api.Entry) raw {
	x := raw{beginning: "SYNB", end: "7777", table: m.Table, centre: m.Centre, time: m.Time, correction: m.Correction, codes: m.Codes, codeCount: len(m.Codes), count: len(m.Reports), cut: -1}
	for i, r := range m.Reports {
		x.blocks = append(x.blocks, checked(bitsOf(r, m.Time, entries), i)...)
	}
	return x
}

// bytes returns the bytes of these parts.
func (x raw) bytes() []byte {
	codes := ""
	for _, code := range x.codes {
		codes += text(code, 16)
	}
	rest := append(packed(codes), packed(text((total(packed(codes))+x.secondCheck)%65536, 16))...)
	rest = append(rest, x.blocks...)
	if x.cut >= 0 {
		rest = rest[:x.cut]
	}
	length := 21 + len(rest) + len(x.end) + x.more
	b := append([]byte(x.beginning), packed(text(length, 24)+text(x.table, 8))...)
	b = append(b, x.centre...)
	b = append(b, packed(text(x.time, 32)+text(x.correction, 8)+text(x.codeCount, 8)+text(x.count, 8))...)
	b = append(b, packed(text((total(b)+x.firstCheck)%65536, 16))...)
	return append(append(b, rest...), x.end...)
}

func total(b []byte) int {
	n := 0
	for _, c := range b {
		n += int(c)
	}
	return n
}

// bytesOf returns the bytes of a valid message of the tests, written anew by the chapter.
func bytesOf(m api.Message) []byte {
	return rawOf(m, entriesOf(m)).bytes()
}

// entriesOf returns the entries of a valid message of the tests.
func entriesOf(m api.Message) []api.Entry {
	for _, t := range tables() {
		if t.Version == m.Table {
			return meaning(t, m.Codes)
		}
	}
	panic("no table")
}

// readBits returns the valid report for whose values a text of bits stands, and whether there is one, by the words of the chapter.
func readBits(bits string, time int, entries []api.Entry) (api.Report, bool) {
	take := func(width int) int {
		n, err := strconv.ParseInt(bits[:width], 2, 64)
		if err != nil {
			panic(err)
		}
		bits = bits[width:]
		return int(n)
	}
	r := api.Report{Kind: take(2)}
	intact := r.Kind != 0
	for range 5 {
		n := take(6)
		intact = intact && n < 36
		r.Name += strings.ToUpper(strconv.FormatInt(int64(n%36), 36))
	}
	r.Time = time + take(16) - 32768
	intact = intact && r.Time >= 0 && r.Time <= 52595999
	face, a, b := take(5), take(10), take(10)
	if r.Kind == 1 {
		intact = intact && face == 0 && a == 0 && b == 0
	} else {
		r.Place = api.Place{Face: face, A: a, B: b, C: 840 - a - b}
		l, e := place.Addresses(r.Place)
		intact = intact && e == api.OK && l[0] == r.Place
	}
	values := map[int]int{}
	for _, e := range entries {
		n := take(e.Width)
		if n == 1<<e.Width-1 {
			continue
		}
		info, _ := element.Describe(e.Element)
		values[e.Element] = e.Least + n*e.Scale
		intact = intact && values[e.Element] >= info.Least && values[e.Element] <= info.Most
	}
	for code := 1; code <= 11; code++ {
		if v, found := values[code]; found {
			r.Readings = append(r.Readings, api.Reading{Element: code, Value: v})
		}
	}
	return r, intact && strings.Trim(bits, "0") == ""
}

// anyReport returns a random valid report within the time of a message, with readings of some of these elements.
func anyReport(random *rand.Rand, time int, elements []int) api.Report {
	name := make([]byte, 5)
	for i := range name {
		name[i] = "0123456789ABCDEFGHIJKLMNOPQRSTUVWXYZ"[random.Intn(36)]
	}
	first, last := max(0, time-32768), min(api.MaxMinute, time+32767)
	r := api.Report{Kind: 1 + random.Intn(3), Name: string(name), Time: first + random.Intn(last-first+1)}
	if r.Kind != api.Land {
		a := random.Intn(841)
		b := random.Intn(841 - a)
		r.Place, _ = place.Normal(api.Place{Face: random.Intn(20), A: a, B: b, C: 840 - a - b})
	}
	for code := 1; code <= 11; code++ {
		if slices.Contains(elements, code) && random.Intn(3) > 0 {
			info, _ := element.Describe(code)
			r.Readings = append(r.Readings, api.Reading{Element: code, Value: info.Least + random.Intn(info.Most-info.Least+1)})
		}
	}
	return r
}

// anyMessage returns a random valid message with the exact table.
func anyMessage(random *rand.Rand) api.Message {
	m := api.Message{Table: 1, Correction: random.Intn(27), Time: random.Intn(api.MaxMinute + 1)}
	for range 4 {
		m.Centre += string(rune('A' + random.Intn(26)))
	}
	for _, i := range random.Perm(11)[:random.Intn(12)] {
		m.Codes = append(m.Codes, i+1)
	}
	for range random.Intn(8) {
		m.Reports = append(m.Reports, anyReport(random, m.Time, m.Codes))
	}
	return m
}
