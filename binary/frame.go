package binary

import (
	"bytes"

	"synoptic/api"
)

// The parts of the head of a message begin at these bytes.
const (
	lengthAt     = len(beginning)
	tableAt      = lengthAt + 3
	centreAt     = tableAt + 1
	timeAt       = centreAt + 4
	correctionAt = timeAt + 4
	codesAt      = correctionAt + 1
	reportsAt    = codesAt + 1
	checkAt      = reportsAt + 1
	headLength   = checkAt + checkLength
)

const (
	beginning   = "SYNB"
	end         = "7777"
	codeLength  = 2
	checkLength = 2
	leastLength = headLength + checkLength + len(end) // of a message without codes and reports
)

// frame is what a message contains apart from its reports: the message without them, how many codes and reports there are, and the bytes of the blocks.
type frame struct {
	message        api.Message
	codes, reports int
	blocks         []byte
}

// head returns the head of a message that has so many bytes, with the first check number.
func head(m api.Message, length int) []byte {
	b := []byte(beginning)
	b = appendNumber(b, length, tableAt-lengthAt)
	b = appendNumber(b, m.Table, centreAt-tableAt)
	b = append(b, m.Centre...)
	b = appendNumber(b, m.Time, correctionAt-timeAt)
	b = appendNumber(b, m.Correction, codesAt-correctionAt)
	b = appendNumber(b, len(m.Codes), reportsAt-codesAt)
	b = appendNumber(b, len(m.Reports), checkAt-reportsAt)
	return appendCheck(b)
}

// codeBytes returns the bytes of codes, with the second check number.
func codeBytes(codes []int) []byte {
	var b []byte
	for _, code := range codes {
		b = appendNumber(b, code, codeLength)
	}
	return appendCheck(b)
}

// readFrame returns the frame of a message; ErrLimit (it is too long), ErrShort (it is too short for any message), ErrSyntax (of its beginning or its end), ErrChecksum (of the head), the error of readHead, ErrShort (it is too short for its codes) or ErrChecksum (of the codes), the first of these that applies.
func readFrame(b []byte) (frame, api.Errno) {
	switch {
	case len(b) > api.MaxMessage:
		return frame{}, api.ErrLimit
	case len(b) < leastLength:
		return frame{}, api.ErrShort
	case !bytes.HasPrefix(b, []byte(beginning)) || !bytes.HasSuffix(b, []byte(end)):
		return frame{}, api.ErrSyntax
	case !isChecked(b[:headLength]):
		return frame{}, api.ErrChecksum
	}
	f, e := readHead(b)
	if e != api.OK {
		return frame{}, e
	}
	rest := b[headLength : len(b)-len(end)]
	checked := codeLength*f.codes + checkLength
	switch {
	case len(rest) < checked:
		return frame{}, api.ErrShort
	case !isChecked(rest[:checked]):
		return frame{}, api.ErrChecksum
	}
	for i := range f.codes {
		f.message.Codes = append(f.message.Codes, valueOf(rest[i*codeLength:(i+1)*codeLength]))
	}
	f.blocks = rest[checked:]
	return f, api.OK
}

// readHead returns the frame of a message as far as the head tells; ErrRange (of a number) or ErrSyntax (of the centre), the first of these that applies.
func readHead(b []byte) (frame, api.Errno) {
	m := api.Message{
		Table:      valueOf(b[tableAt:centreAt]),
		Centre:     string(b[centreAt:timeAt]),
		Time:       valueOf(b[timeAt:correctionAt]),
		Correction: valueOf(b[correctionAt:codesAt]),
	}
	f := frame{message: m, codes: valueOf(b[codesAt:reportsAt]), reports: valueOf(b[reportsAt:checkAt])}
	if valueOf(b[lengthAt:tableAt]) != len(b) || m.Time > api.MaxMinute || m.Correction > api.MaxCorrection || f.codes > api.MaxCodes || f.reports > api.MaxReports {
		return frame{}, api.ErrRange
	}
	if e := checkHeading(m); e != api.OK {
		return frame{}, e
	}
	return f, api.OK
}

// appendCheck returns b with the check number of its bytes behind it, which are too few for their sum to need the modulus.
func appendCheck(b []byte) []byte {
	return appendNumber(b, sum(b), checkLength)
}

// isChecked reports whether bytes end with the check number of those before.
func isChecked(b []byte) bool {
	at := len(b) - checkLength
	return valueOf(b[at:]) == sum(b[:at])
}

// appendNumber returns b with the last size bytes of a number behind it, the most significant one first.
func appendNumber(b []byte, n, size int) []byte {
	for i := size - 1; i >= 0; i-- {
		b = append(b, byte(n>>(i*perByte)))
	}
	return b
}

// valueOf returns the number that is written in bytes.
func valueOf(b []byte) int {
	n := 0
	for _, c := range b {
		n = n<<perByte | int(c)
	}
	return n
}

// sum returns the sum of bytes.
func sum(b []byte) int {
	n := 0
	for _, c := range b {
		n += int(c)
	}
	return n
}
