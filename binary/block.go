package binary

import (
	"bytes"
	"cmp"
	"iter"
	"slices"
	"strings"

	"synoptic/api"
	"synoptic/bits"
	"synoptic/element"
	"synoptic/group"
	"synoptic/table"
)

// The widths of the numbers that each block has, in their order; those of the entries follow.
const (
	kindWidth   = 2
	nameWidth   = 6 // of each byte
	timeWidth   = 16
	faceWidth   = 5
	weightWidth = 10 // of each weight
	fixedWidth  = kindWidth + nameLength*nameWidth + timeWidth + faceWidth + 2*weightWidth
)

const (
	nameLength = 5
	nameBytes  = "0123456789ABCDEFGHIJKLMNOPQRSTUVWXYZ"
	noNameByte = "?"
	timeShift  = 1 << (timeWidth - 1)
	perByte    = 8
)

// number is a number of a block, with its width.
type number struct{ value, width int }

// blockLength returns the number of bytes of a block with these entries.
func blockLength(entries []api.Entry) int {
	width := fixedWidth
	for _, e := range entries {
		width += e.Width
	}
	return (width+perByte-1)/perByte + 1
}

// writeBlock returns the block with an index in a message of a time, for a report that can be written there.
func writeBlock(r api.Report, index, time int, entries []api.Entry) []byte {
	var list api.Bits
	for _, n := range numbers(r, time, entries) {
		list, _ = bits.Append(list, n.value, n.width)
	}
	list, _ = bits.Pad(list)
	return appendNumber(list.Bytes, sum(list.Bytes)+index, 1)
}

// numbers returns the numbers of the block of a report, in order.
func numbers(r api.Report, time int, entries []api.Entry) []number {
	l := []number{{r.Kind, kindWidth}}
	for i := range len(r.Name) {
		l = append(l, number{strings.IndexByte(nameBytes, r.Name[i]), nameWidth})
	}
	l = append(l,
		number{r.Time - time + timeShift, timeWidth},
		number{r.Place.Face, faceWidth},
		number{r.Place.A, weightWidth},
		number{r.Place.B, weightWidth},
	)
	for _, e := range entries {
		l = append(l, number{readingNumber(r.Readings, e), e.Width})
	}
	return l
}

// readingNumber returns the number that stands for the reading of an entry's element, or for none.
func readingNumber(l []api.Reading, e api.Entry) int {
	value, found := element.Find(l, e.Element)
	if !found {
		return 1<<e.Width - 1
	}
	n, _ := table.Encode(e, value)
	return n
}

// split returns the blocks of a length of which b consists, with their indices.
func split(b []byte, length int) iter.Seq2[int, []byte] {
	return func(yield func(index int, block []byte) bool) {
		for i := range len(b) / length {
			if !yield(i, b[i*length:(i+1)*length]) {
				return
			}
		}
	}
}

// readBlock returns the report of the block with an index, and true; no report and false if the block is damaged.
func readBlock(b []byte, index, time int, entries []api.Entry) (api.Report, bool) {
	r := readReport(b, time, entries)
	// The report does not show all faults of a block (of the last byte, the bits 0 before it, or a place of Land), but it is written without them.
	if group.Validate(r) != api.OK || !bytes.Equal(writeBlock(r, index, time, entries), b) {
		return api.Report{}, false
	}
	return r, true
}

// readReport returns the report for which the numbers of a block stand; it need not be valid.
func readReport(b []byte, time int, entries []api.Entry) api.Report {
	next := reader(b)
	r := api.Report{Kind: next(kindWidth)}
	for range nameLength {
		r.Name += nameByte(next(nameWidth))
	}
	r.Time = time + next(timeWidth) - timeShift
	r.Place = api.Place{Face: next(faceWidth), A: next(weightWidth), B: next(weightWidth)}
	r.Place.C = api.Unit - r.Place.A - r.Place.B
	if r.Kind == api.Land {
		r.Place = api.Place{}
	}
	for _, e := range entries {
		if value, found := table.Decode(e, next(e.Width)); found {
			r.Readings = append(r.Readings, api.Reading{Element: e.Element, Value: value})
		}
	}
	slices.SortFunc(r.Readings, func(a, b api.Reading) int { return cmp.Compare(a.Element, b.Element) })
	return r
}

// reader returns a function that reads the numbers in b one after the other, each with the width that it is called with.
func reader(b []byte) func(width int) int {
	list := api.Bits{Bytes: b, Len: perByte * len(b)}
	at := 0
	return func(width int) int {
		n, _ := bits.Read(list, at, width)
		at += width
		return n
	}
}

// nameByte returns the byte of a name for which a number stands, and one that no name has if there is none.
func nameByte(n int) string {
	if n >= len(nameBytes) {
		return noNameByte
	}
	return nameBytes[n : n+1]
}
