package timeline

const hour = 60 // minutes

// steps returns, for each point of a line, whether the step rule rejects it; the rule rejects nothing if the steps per hour are 0.
func steps(line []point, perHour int) []bool {
	rejected := make([]bool, len(line))
	if perHour == 0 {
		return rejected
	}
	slow := func(a, b point) bool {
		most := perHour * wholeHours(b.time-a.time)
		return b.value-a.value <= most && a.value-b.value <= most
	}
	// The first point is good, because it does not differ from itself.
	good := line[0]
	for i, p := range line {
		supported := i+1 < len(line) && slow(p, line[i+1])
		if slow(good, p) || supported {
			good = p
		} else {
			rejected[i] = true
		}
	}
	return rejected
}

// wholeHours returns the hours of a number of minutes, rounded up.
func wholeHours(minutes int) int {
	return (minutes + hour - 1) / hour
}

// isSpike reports whether the spike rule rejects the point i of a line; it rejects nothing if the limit is 0.
func isSpike(line []point, i, limit int) bool {
	if limit == 0 || i == 0 || i == len(line)-1 {
		return false
	}
	value, before, behind := line[i].value, line[i-1].value, line[i+1].value
	low, high := min(before, behind), max(before, behind)
	return high-low <= limit && (value > high+limit || value < low-limit)
}
