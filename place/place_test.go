package place

import (
	"slices"
	"testing"

	"synoptic/api"
)

const (
	least = -1 << 63
	most  = 1<<63 - 1
)

// faces holds the corners of all faces, written out.
var faces = [api.Faces][3]int{
	{0, 1, 2}, {0, 2, 3}, {0, 3, 4}, {0, 4, 5}, {0, 5, 1},
	{1, 6, 2}, {2, 7, 3}, {3, 8, 4}, {4, 9, 5}, {5, 10, 1},
	{6, 7, 2}, {7, 8, 3}, {8, 9, 4}, {9, 10, 5}, {10, 6, 1},
	{11, 7, 6}, {11, 8, 7}, {11, 9, 8}, {11, 10, 9}, {11, 6, 10},
}

func at(face, a, b, c int) api.Place {
	return api.Place{Face: face, A: a, B: b, C: c}
}

// byVertex returns the weight of each vertex in a valid place, by the table of this test.
func byVertex(p api.Place) [12]int {
	var w [12]int
	for i, n := range []int{p.A, p.B, p.C} {
		w[faces[p.Face][i]] = n
	}
	return w
}

// samples returns all places on all faces of which A and B are among some weights, ascending by Face.
func samples(some ...int) []api.Place {
	var all []api.Place
	for face := range faces {
		for _, a := range some {
			for _, b := range some {
				if a+b <= api.Unit {
					all = append(all, at(face, a, b, api.Unit-a-b))
				}
			}
		}
	}
	return all
}

var validPlaces = []api.Place{
	at(0, 840, 0, 0),
	at(0, 0, 840, 0),
	at(0, 0, 0, 840),
	at(19, 0, 0, 840),
	at(19, 840, 0, 0),
	at(7, 280, 280, 280),
	at(5, 420, 420, 0),
	at(12, 1, 838, 1),
}

var invalidPlaces = []api.Place{
	{},
	at(-1, 280, 280, 280),
	at(20, 280, 280, 280),
	at(least, 280, 280, 280),
	at(most, 280, 280, 280),
	at(0, 0, 0, 839),
	at(0, 1, 0, 840),
	at(3, 280, 280, 281),
	at(3, 280, 280, 279),
	at(3, -1, 841, 0),
	at(3, 0, -1, 841),
	at(3, 841, 0, -1),
	at(3, 841, -1, 0),
	at(3, -840, 840, 840),
	at(3, 1680, -420, -420),
	// Their sums wrap around to Unit, or to 0.
	at(3, most, most, 842),
	at(3, most, 842, most),
	at(3, 842, most, most),
	at(3, least, least, 840),
	at(3, 840, least, least),
	at(3, least, most, 841),
	at(3, most, least, 841),
	at(3, least, least, 0),
	at(3, 1<<62, 1<<62, least+840),
}

// P2.1
func TestValid(t *testing.T) {
	for _, p := range validPlaces {
		if !Valid(p) {
			t.Errorf("Valid(%v) is false", p)
		}
	}
	for _, p := range invalidPlaces {
		if Valid(p) {
			t.Errorf("Valid(%v) is true", p)
		}
	}
}

// P2.1: every small place, of which one coordinate is the rest, is valid if this rest is not negative.
func TestValidAtTheEdges(t *testing.T) {
	for a := -2; a <= api.Unit+2; a++ {
		for _, b := range []int{-1, 0, 1, 419, 420, 839, 840, 841} {
			c := api.Unit - a - b
			want := a >= 0 && b >= 0 && c >= 0
			for _, p := range []api.Place{at(4, a, b, c), at(4, b, c, a), at(4, c, a, b)} {
				if Valid(p) != want {
					t.Errorf("Valid(%v) is not %v", p, want)
				}
			}
			if p := at(4, a, b, c+1); Valid(p) {
				t.Errorf("Valid(%v) is true", p)
			}
		}
	}
}

// P2.1
func TestCorners(t *testing.T) {
	for face, want := range faces {
		if got, e := Corners(face); got != want || e != api.OK {
			t.Errorf("Corners(%d) = %v, %d, not %v", face, got, e, want)
		}
	}
	for _, face := range []int{-1, -5, 20, 25, least, most} {
		if got, e := Corners(face); got != [3]int{} || e != api.ErrRange {
			t.Errorf("Corners(%d) = %v, %d, not ErrRange", face, got, e)
		}
	}
}

// edgeOf returns the two corners of a face but the one with an index, the lesser first.
func edgeOf(face, corner int) [2]int {
	switch c := faces[face]; corner {
	case 0:
		return [2]int{min(c[1], c[2]), max(c[1], c[2])}
	case 1:
		return [2]int{min(c[0], c[2]), max(c[0], c[2])}
	default:
		return [2]int{min(c[0], c[1]), max(c[0], c[1])}
	}
}

// P2.1
func TestAcross(t *testing.T) {
	sides := map[[2]int][]int{}
	for face := range faces {
		for corner := range 3 {
			sides[edgeOf(face, corner)] = append(sides[edgeOf(face, corner)], face)
		}
	}
	if len(sides) != 30 {
		t.Fatalf("%d edges, not 30", len(sides))
	}
	for face := range faces {
		for corner := range 3 {
			both := sides[edgeOf(face, corner)]
			if len(both) != 2 {
				t.Fatalf("the edge %v belongs to %v", edgeOf(face, corner), both)
			}
			want := both[0] + both[1] - face
			if got, e := Across(face, corner); got != want || e != api.OK {
				t.Errorf("Across(%d, %d) = %d, %d, not %d", face, corner, got, e, want)
			}
		}
	}
}

// P2.1: some edges between all kinds of faces, read off the chapter.
func TestAcrossByHand(t *testing.T) {
	for _, x := range [][3]int{
		{0, 0, 5}, {0, 1, 1}, {0, 2, 4},
		{4, 0, 9}, {4, 1, 0}, {4, 2, 3},
		{5, 0, 10}, {5, 1, 0}, {5, 2, 14},
		{14, 0, 5}, {14, 1, 9}, {14, 2, 19},
		{19, 0, 14}, {19, 1, 18}, {19, 2, 15},
	} {
		if got, e := Across(x[0], x[1]); got != x[2] || e != api.OK {
			t.Errorf("Across(%d, %d) = %d, %d, not %d", x[0], x[1], got, e, x[2])
		}
	}
}

// The consequence: Across leads back.
func TestAcrossLeadsBack(t *testing.T) {
	for face := range faces {
		for corner := range 3 {
			other, _ := Across(face, corner)
			found := 0
			for back := range 3 {
				if edgeOf(other, back) == edgeOf(face, corner) {
					if got, e := Across(other, back); got != face || e != api.OK {
						t.Errorf("Across(%d, %d) = %d, %d, not %d", other, back, got, e, face)
					}
					found++
				}
			}
			if found != 1 {
				t.Errorf("the faces %d and %d share %d edges opposite to the corner %d", face, other, found, corner)
			}
		}
	}
}

// P2.1
func TestAcrossOutOfRange(t *testing.T) {
	for _, x := range [][2]int{
		{-1, 0}, {20, 0}, {least, 0}, {most, 0},
		{0, -1}, {0, 3}, {19, least}, {19, most},
		{-1, -1}, {20, 3},
	} {
		if got, e := Across(x[0], x[1]); got != 0 || e != api.ErrRange {
			t.Errorf("Across(%d, %d) = %d, %d, not ErrRange", x[0], x[1], got, e)
		}
	}
}

// checkAddresses compares the addresses and the normal place of p with what is expected.
func checkAddresses(t *testing.T, p api.Place, want []api.Place) {
	t.Helper()
	if got, e := Addresses(p); !slices.Equal(got, want) || e != api.OK {
		t.Errorf("Addresses(%v) = %v, %d, not %v", p, got, e, want)
	}
	if got, e := Normal(p); got != want[0] || e != api.OK {
		t.Errorf("Normal(%v) = %v, %d, not %v", p, got, e, want[0])
	}
}

// P2.2
func TestAddressesByHand(t *testing.T) {
	for _, all := range [][]api.Place{
		{at(0, 0, 0, 840), at(1, 0, 840, 0), at(5, 0, 0, 840), at(6, 840, 0, 0), at(10, 0, 0, 840)},
		{at(0, 840, 0, 0), at(1, 840, 0, 0), at(2, 840, 0, 0), at(3, 840, 0, 0), at(4, 840, 0, 0)},
		{at(0, 0, 840, 0), at(4, 0, 0, 840), at(5, 840, 0, 0), at(9, 0, 0, 840), at(14, 0, 0, 840)},
		{at(5, 0, 840, 0), at(10, 840, 0, 0), at(14, 0, 840, 0), at(15, 0, 0, 840), at(19, 0, 840, 0)},
		{at(15, 840, 0, 0), at(16, 840, 0, 0), at(17, 840, 0, 0), at(18, 840, 0, 0), at(19, 840, 0, 0)},
		{at(5, 420, 420, 0), at(14, 0, 420, 420)},
		{at(0, 1, 0, 839), at(1, 1, 839, 0)},
		{at(0, 1, 839, 0), at(4, 1, 0, 839)},
		{at(15, 0, 300, 540), at(10, 540, 300, 0)},
		{at(7, 280, 280, 280)},
		{at(19, 1, 1, 838)},
	} {
		want := slices.Clone(all)
		slices.SortFunc(want, func(p, q api.Place) int { return p.Face - q.Face })
		for _, p := range all {
			checkAddresses(t, p, want)
		}
	}
}

// P2.2 and the consequences: by the weights of the vertices, also of places a single unit away from an edge or a corner.
func TestAddresses(t *testing.T) {
	all := samples(0, 1, 2, 279, 280, 281, 419, 420, 421, 559, 838, 839, 840)
	groups := map[[12]int][]api.Place{}
	for _, p := range all {
		groups[byVertex(p)] = append(groups[byVertex(p)], p)
	}
	for _, p := range all {
		of := byVertex(p)
		var want []api.Place
		for face, c := range faces {
			q := at(face, of[c[0]], of[c[1]], of[c[2]])
			if q.A+q.B+q.C == api.Unit {
				want = append(want, q)
			}
		}
		checkAddresses(t, p, want)
		zeros := 0
		for _, n := range []int{p.A, p.B, p.C} {
			if n == 0 {
				zeros++
			}
		}
		if count := [3]int{1, 2, 5}[zeros]; len(want) != count {
			t.Errorf("%v has %d addresses, not %d", p, len(want), count)
		}
		for _, q := range groups[of] {
			if !slices.Contains(want, q) {
				t.Errorf("%v is not among the addresses of %v", q, p)
			}
		}
	}
}

// P2.2 and the consequences: Same compares the weights of all vertices, as do normal places.
func TestSame(t *testing.T) {
	all := samples(0, 1, 120, 280, 420, 560, 839, 840)
	normal := map[api.Place]api.Place{}
	for _, p := range all {
		normal[p], _ = Normal(p)
	}
	for _, p := range all {
		for _, q := range all {
			want := byVertex(p) == byVertex(q)
			if Same(p, q) != want {
				t.Fatalf("Same(%v, %v) is not %v", p, q, want)
			}
			if (normal[p] == normal[q]) != want {
				t.Fatalf("the normal places of %v and %v are %v and %v", p, q, normal[p], normal[q])
			}
		}
	}
}

// P2.2: places that are not valid have no addresses, and are not the same as themselves.
func TestInvalidPlaces(t *testing.T) {
	for _, p := range invalidPlaces {
		if got, e := Normal(p); got != (api.Place{}) || e != api.ErrRange {
			t.Errorf("Normal(%v) = %v, %d, not ErrRange", p, got, e)
		}
		if got, e := Addresses(p); len(got) != 0 || e != api.ErrRange {
			t.Errorf("Addresses(%v) = %v, %d, not ErrRange", p, got, e)
		}
		if Same(p, p) {
			t.Errorf("Same(%v, %v) is true", p, p)
		}
		// Among these is each place whose weights p would have if its face were counted from another one.
		for _, q := range samples(0, 280, 420, 840) {
			if Same(p, q) || Same(q, p) {
				t.Errorf("%v and %v are the same", p, q)
			}
		}
	}
}

// Rule 2: results are new memory.
func TestAddressesAreNew(t *testing.T) {
	p := at(0, 840, 0, 0)
	first, _ := Addresses(p)
	first[0] = at(19, 0, 0, 840)
	if second, _ := Addresses(p); second[0] != p {
		t.Errorf("Addresses(%v) begins with %v after a change of an earlier result", p, second[0])
	}
}
