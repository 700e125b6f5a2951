package table

// The kinds of codes.
const (
	ofNone = iota
	ofEntry
	ofSequence
	ofReplication
)

const (
	firstSequence    = 10000
	firstReplication = 20000
	perCount         = 100 // from a replication of x codes to that of x + 1 codes
	mostCount        = 20
)

// kindOf returns of which kind a code is.
func kindOf(code int) int {
	count, times := replication(code)
	switch {
	case within(code, 1, firstSequence-1):
		return ofEntry
	case within(code, firstSequence, firstReplication-1):
		return ofSequence
	case within(count, 1, mostCount) && within(times, 1, mostCount):
		return ofReplication
	}
	return ofNone
}

func isNone(code int) bool {
	return kindOf(code) == ofNone
}

// replication returns how many codes a replication takes, and how many times. The code is divided before anything is subtracted, as a difference could wrap around.
func replication(code int) (count, times int) {
	return code/perCount - firstReplication/perCount, code % perCount
}
