package table

import "synoptic/api"

const mostNested = 20

// Expand returns the expansion of codes; the error of Validate, ErrLimit if there are too many codes, or the first error that is found while they are expanded.
func Expand(t api.Table, codes []int) ([]api.Entry, api.Errno) {
	if e := Validate(t); e != api.OK {
		return nil, e
	}
	if len(codes) > api.MaxCodes {
		return nil, api.ErrLimit
	}
	x := expansion{entries: entriesByCode(t), sequences: sequencesByCode(t)}
	if e := x.expand(codes, 0); e != api.OK {
		return nil, e
	}
	return x.list, api.OK
}

// expansion is an expansion under way: what the codes stand for, how many codes have been taken, and the entries so far.
type expansion struct {
	entries   map[int]api.Entry
	sequences map[int]api.Sequence
	taken     int
	list      []api.Entry
}

// expand adds the expansion of codes that are nested within so many sequences. As each code counts before anything else is done with it, this ends also if a sequence contains itself.
func (x *expansion) expand(codes []int, nested int) api.Errno {
	for len(codes) > 0 {
		code := codes[0]
		codes = codes[1:]
		x.taken++
		if x.taken > api.MaxTaken {
			return api.ErrLimit
		}
		var e api.Errno
		switch kindOf(code) {
		case ofEntry:
			e = x.add(code)
		case ofSequence:
			e = x.open(code, nested)
		case ofReplication:
			count, times := replication(code)
			if count > len(codes) {
				return api.ErrShort
			}
			e = x.repeat(codes[:count], times, nested)
			codes = codes[count:]
		default:
			e = api.ErrRange
		}
		if e != api.OK {
			return e
		}
	}
	return api.OK
}

// add adds the entry with a code.
func (x *expansion) add(code int) api.Errno {
	own, found := x.entries[code]
	if !found {
		return api.ErrMissing
	}
	if len(x.list) == api.MaxExpanded {
		return api.ErrLimit
	}
	x.list = append(x.list, own)
	return api.OK
}

// open adds the expansion of the sequence with a code.
func (x *expansion) open(code, nested int) api.Errno {
	own, found := x.sequences[code]
	if !found {
		return api.ErrMissing
	}
	if nested > mostNested {
		return api.ErrLimit
	}
	return x.expand(own.Codes, nested+1)
}

// repeat adds the expansion of codes several times. All times are made, even if no entries come from them, because the codes count each time.
func (x *expansion) repeat(codes []int, times, nested int) api.Errno {
	for range times {
		if e := x.expand(codes, nested); e != api.OK {
			return e
		}
	}
	return api.OK
}
