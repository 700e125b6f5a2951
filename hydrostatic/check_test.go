package hydrostatic

import (
	"slices"
	"testing"

	"synoptic/api"
)

// What Check rejects.
var (
	nothing    = []int{}
	lowest     = []int{6, 7}
	highest    = []int{10, 11}
	lowerFour  = []int{6, 7, 8, 9}
	upperFour  = []int{8, 9, 10, 11}
	height     = []int{8}
	warmth     = []int{9}
	everything = []int{6, 7, 8, 9, 10, 11}
)

// checkRejected compares what Check returns with what is expected.
func checkRejected(t *testing.T, l []api.Reading, tolerance int, want []int) {
	t.Helper()
	before := slices.Clone(l)
	got, e := Check(l, tolerance)
	if e != api.OK || !slices.Equal(got, want) {
		t.Fatalf("Check = %v, %d, not %v, of %v with the tolerance %d", got, e, want, l, tolerance)
	}
	if !slices.Equal(l, before) {
		t.Fatalf("Check changed %v to %v", before, l)
	}
}

// lowerOnly returns readings with the lower layer alone, of which the thickness and the sum of the temperatures are given.
func lowerOnly(thickness, sum int) []api.Reading {
	return levels(2700-thickness, sum-2600, 2700, 2600)
}

// upperOnly returns readings with the upper layer alone, of which the thickness and the sum of the temperatures are given.
func upperOnly(thickness, sum int) []api.Reading {
	return levels(0, 0, 2700, 2600, 2700+thickness, sum-2600)[2:]
}

// P17.2: the chapter's examples.
func TestCheckOfExamples(t *testing.T) {
	checkRejected(t, levels(1400, 2800, 2991, 2800), 20, nothing)
	checkRejected(t, levels(1400, 2800, 2991, 2800), 1, nothing)
	checkRejected(t, levels(1400, 2800, 2991, 2800), 0, lowerFour)
	checkRejected(t, levels(1400, 2800, 2991, 2800, 5650, 2600), 20, nothing)
	checkRejected(t, levels(1400, 2800, 3091, 2800, 5650, 2600), 20, height)
	checkRejected(t, levels(1400, 2800, 2891, 2800, 5650, 2600), 20, height)
	checkRejected(t, levels(1400, 2800, 3091, 2800, 5650, 2600), 99, height)
	checkRejected(t, levels(1400, 2800, 3091, 2800, 5650, 2600), 100, nothing)
}

// P17.2: nothing is rejected of layers that do not exist.
func TestCheckOfMissingReadings(t *testing.T) {
	all := levels(1700, 3200, 2400, 3000, 6200, 2000)
	for set := range 1 << 6 {
		l := list(1, 8000, 2, 1800, 3, 3300, 4, -1000, 5, 1000)
		for i, r := range all {
			if set>>i&1 == 1 {
				l = append(l, r)
			}
		}
		lower, upper := set&0b001111 == 0b001111, set&0b111100 == 0b111100
		want := nothing
		switch {
		case lower && upper:
			want = everything
		case lower:
			want = lowerFour
		case upper:
			want = upperFour
		}
		for _, tolerance := range []int{0, 1, 20, 276} {
			checkRejected(t, l, tolerance, want)
			checkRejected(t, l[5:], tolerance, want)
		}
	}
	checkRejected(t, nil, 0, nothing)
	checkRejected(t, []api.Reading{}, 1000, nothing)
}

// P17.2: a lower layer without an upper one, at both limits. The residual is -4 of the thickness 1531 with the sum 5388, and 7 of the thickness 1583 with the sum 5571.
func TestCheckOfTheLowerLayer(t *testing.T) {
	for _, tolerance := range []int{1, 2, 20, 100, 150} {
		checkRejected(t, lowerOnly(1531+tolerance, 5388), tolerance, nothing)
		checkRejected(t, lowerOnly(1531+tolerance+1, 5388), tolerance, lowerFour)
		checkRejected(t, lowerOnly(1531-tolerance+1, 5388), tolerance, nothing)
		checkRejected(t, lowerOnly(1531-tolerance, 5388), tolerance, lowerFour)
		checkRejected(t, lowerOnly(1583+tolerance-1, 5571), tolerance, nothing)
		checkRejected(t, lowerOnly(1583+tolerance, 5571), tolerance, lowerFour)
		checkRejected(t, lowerOnly(1583-tolerance, 5571), tolerance, nothing)
		checkRejected(t, lowerOnly(1583-tolerance-1, 5571), tolerance, lowerFour)
	}
	checkRejected(t, lowerOnly(1531, 5388), 0, lowerFour)
	checkRejected(t, lowerOnly(1583, 5571), 0, lowerFour)
	checkRejected(t, levels(900, 2000, 3400, 2000), 1000, lowerFour)
	checkRejected(t, levels(1700, 3200, 2400, 3000), 1000, lowerFour)
	// Other readings do not matter, and neither do those of an upper layer that does not exist.
	wrong := lowerOnly(1561, 5388)
	checkRejected(t, slices.Concat(list(1, 10132, 2, 2800), wrong), 20, lowerFour)
	checkRejected(t, slices.Concat(wrong, list(10, 5000)), 20, lowerFour)
	checkRejected(t, slices.Concat(wrong, list(11, 2500)), 20, lowerFour)
}

// P17.2: an upper layer without a lower one, at both limits. The residual is 0 of the thickness 2462 with the sum 5000, -8 of 2300 with 4671, and 8 of 2624 with 5329.
func TestCheckOfTheUpperLayer(t *testing.T) {
	for _, tolerance := range []int{1, 2, 20, 600} {
		checkRejected(t, upperOnly(2462+tolerance, 5000), tolerance, nothing)
		checkRejected(t, upperOnly(2462+tolerance+1, 5000), tolerance, upperFour)
		checkRejected(t, upperOnly(2462-tolerance, 5000), tolerance, nothing)
		checkRejected(t, upperOnly(2462-tolerance-1, 5000), tolerance, upperFour)
		checkRejected(t, upperOnly(2300+tolerance, 4671), tolerance, nothing)
		checkRejected(t, upperOnly(2300-tolerance, 4671), tolerance, upperFour)
		checkRejected(t, upperOnly(2624+tolerance, 5329), tolerance, upperFour)
		checkRejected(t, upperOnly(2624-tolerance, 5329), tolerance, nothing)
	}
	checkRejected(t, upperOnly(2462, 5000), 0, nothing)
	checkRejected(t, upperOnly(2463, 5000), 0, upperFour)
	checkRejected(t, upperOnly(2461, 5000), 0, upperFour)
	checkRejected(t, upperOnly(3462, 5000), 1000, nothing)
	checkRejected(t, upperOnly(3463, 5000), 1000, upperFour)
	// Other readings do not matter, and neither do those of a lower layer that does not exist.
	wrong := upperOnly(2432, 5000)
	checkRejected(t, slices.Concat(list(1, 10132, 3, 2800), wrong), 20, upperFour)
	checkRejected(t, slices.Concat(list(6, 1400), wrong), 20, upperFour)
	checkRejected(t, slices.Concat(list(7, 2800), wrong), 20, upperFour)
}

// with returns readings of which one has another value.
func with(l []api.Reading, code, value int) []api.Reading {
	l = slices.Clone(l)
	l[slices.IndexFunc(l, func(r api.Reading) bool { return r.Element == code })].Value = value
	return l
}

// P17.2: one layer is wrong, and the other one exists. Without the other value, the residuals are -4 and 0.
func TestCheckOfOneWrongLayer(t *testing.T) {
	base := levels(1200, 2888, 2731, 2500, 5193, 2500)
	checkRejected(t, base, 1, nothing)
	checkRejected(t, base, 0, lowest)
	for _, x := range []struct {
		code, value, tolerance int
		want                   []int
	}{
		{6, 1219, 20, nothing}, {6, 1220, 20, lowest}, {6, 1180, 20, nothing}, {6, 1179, 20, lowest},
		{7, 3000, 32, nothing}, {7, 3000, 31, lowest}, {7, 2800, 26, nothing}, {7, 2800, 25, lowest},
		{8, 2711, 20, lowest}, {8, 2711, 21, nothing}, {8, 2751, 20, nothing}, {8, 2731 - 250, 250, lowest},
		{9, 2540, 19, highest}, {9, 2540, 20, nothing}, {9, 2460, 19, highest}, {9, 2460, 20, nothing},
		{10, 5213, 20, nothing}, {10, 5214, 20, highest}, {10, 5173, 20, nothing}, {10, 5172, 20, highest},
		{11, 2400, 50, nothing}, {11, 2400, 49, highest}, {11, 2600, 50, nothing}, {11, 2600, 49, highest},
	} {
		checkRejected(t, with(base, x.code, x.value), x.tolerance, x.want)
	}
}

// P17.2: both layers are wrong, and the sum of the residuals is at its limits, or one unit away from them.
func TestCheckOfWrongHeight(t *testing.T) {
	for _, x := range []struct{ t850, t700, h500, t500, least int }{
		{2789, 2531, 5500, 2624, 50}, // 1000000
		{2565, 2848, 5716, 2692, 51}, // 1000001
		{2699, 2784, 5664, 2610, 50}, // 999999
		{2789, 2531, 5400, 2624, 50}, // -1000000
		{2699, 2784, 5564, 2610, 51}, // -1000001
		{2565, 2848, 5616, 2692, 50}, // -999999
		{2789, 2531, 5450, 2624, 0},  // 0
	} {
		for _, h700 := range []int{2600, 3300} {
			l := levels(1400, x.t850, h700, x.t700, x.h500, x.t500)
			for tolerance := range 200 {
				want := height
				if tolerance < x.least {
					want = everything
				}
				checkRejected(t, l, tolerance, want)
			}
		}
	}
}

// P17.2: both layers are wrong, and what T700 does not change is near to its limits, with a distance of at most 72 units.
func TestCheckOfWrongTemperature(t *testing.T) {
	checkRejected(t, levels(1128, 3174, 2600, 2000, 4571, 2000), 1, warmth)
	checkRejected(t, levels(1128, 3174, 2600, 2000, 4571, 2000), 0, everything)
	checkRejected(t, levels(1095, 2967, 3000, 2000, 5825, 2000), 1, warmth)
	checkRejected(t, levels(1095, 2967, 3000, 2000, 5825, 2000), 0, everything)
	checkRejected(t, levels(1095, 2967, 2800, 2000, 5625, 2000), 200, warmth)
	checkRejected(t, levels(1095, 2967, 2800, 2000, 5625, 2000), 199, everything)
	checkRejected(t, levels(1329, 3174, 2600, 2450, 4571, 2000), 200, everything)
	checkRejected(t, levels(1329, 3174, 2600, 2450, 4571, 2000), 201, warmth)
}

// P17.2: tolerances that are out of range, whatever the readings are.
func TestWrongTolerances(t *testing.T) {
	for _, l := range [][]api.Reading{nil, levels(1400, 2800, 3091, 2800, 5650, 2600), list(12, 0), list(1, 0), list(2, 2800, 1, 10132)} {
		for _, tolerance := range []int{-1, -2, 1001, 1 << 31, 1 << 32, 1<<32 + 20, -1 << 32, 1 << 62, least, most} {
			if got, e := Check(l, tolerance); e != api.ErrRange || len(got) > 0 {
				t.Errorf("Check = %v, %d, not the error %d, of %v with the tolerance %d", got, e, api.ErrRange, l, tolerance)
			}
		}
	}
}

// P17.2: readings that are not valid, also those that have nothing to do with the layers.
func TestWrongReadings(t *testing.T) {
	wrong := levels(1400, 2800, 3091, 2800, 5650, 2600)
	for want, all := range map[api.Errno][][]api.Reading{
		api.ErrKind:  {list(0, 0), list(-1, 0), list(12, 0), list(1<<32+6, 1400), list(most, 0), list(least, 0), slices.Concat(list(1, 0, 1, 0, 12, 0), wrong)},
		api.ErrRange: {list(1, 7999), list(6, 1701), list(7, 3201), list(8, 2399), list(9, 3001), list(10, 6201), list(11, 1999), list(8, most), list(9, least), slices.Concat(list(1, 0), wrong), slices.Concat(wrong, list(1, 11001))},
		api.ErrOrder: {list(7, 2800, 6, 1400), list(6, 1400, 6, 1400), slices.Concat(wrong, wrong), slices.Concat(wrong, list(1, 10132))},
	} {
		for _, l := range all {
			for _, tolerance := range []int{0, 20, 1000} {
				if got, e := Check(l, tolerance); e != want || len(got) > 0 {
					t.Errorf("Check = %v, %d, not the error %d, of %v with the tolerance %d", got, e, want, l, tolerance)
				}
			}
		}
	}
}

// A result is new memory: changing it does not change another one.
func TestCheckReturnsNewMemory(t *testing.T) {
	for _, x := range []struct {
		l    []api.Reading
		want []int
	}{
		{levels(1400, 2800, 3091, 2800, 5650, 2600), height},
		{levels(1095, 2967, 3000, 2000, 5825, 2000), warmth},
		{levels(1400, 2789, 2600, 2531, 5500, 2624), everything},
		{levels(900, 2000, 3400, 2000), lowerFour},
		{upperOnly(3463, 5000), upperFour},
		{levels(1300, 2888, 2731, 2500, 5193, 2500), lowest},
		{levels(1200, 2888, 2731, 2500, 5293, 2500), highest},
	} {
		got, _ := Check(x.l, 1)
		for i := range got {
			got[i] = 77
		}
		checkRejected(t, x.l, 1, x.want)
	}
}
