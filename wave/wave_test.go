package wave_test

import (
	"encoding/binary"
	"fmt"
	"math"
	"slices"
	"testing"

	"shingle/api"
	"shingle/lift"
	"shingle/plane"
	"shingle/wave"
)

const (
	least    = math.MinInt
	greatest = math.MaxInt
	most     = 1024    // of a side
	far      = 1 << 32 // as far on both sides of 0 a transform is taken back
)

// source of numbers for the tests, the same in each run.
type source uint64

func (s *source) next() int {
	*s ^= *s << 13
	*s ^= *s >> 7
	*s ^= *s << 17
	return int(*s)
}

// made plane: its numbers are a function's, of a source that its sides set out.
func made(w, h int, number func(s *source, x, y int) int) api.Plane {
	s := source(0x510e527fade682d1 + uint64(w)<<24 + uint64(h))
	p := api.Plane{W: w, H: h, V: make([]int, w*h)}
	for i := range p.V {
		p.V[i] = number(&s, i%w, i/w)
	}
	return p
}

// drawn plane of numbers of as many bits as are asked for, on both sides of 0.
func drawn(w, h int, bits uint) api.Plane {
	return made(w, h, func(s *source, _, _ int) int { return s.next() >> (64 - bits) })
}

// picked plane: each number is one of those that are handed in.
func picked(w, h int, from ...int) api.Plane {
	return made(w, h, func(s *source, _, _ int) int { return from[uint(s.next())%uint(len(from))] })
}

// edged plane: each number is at, or beside, an end of what 64 bits hold, or of what a doubling may go to, or beside 0.
func edged(w, h int) api.Plane {
	return picked(w, h, least, least+1, -1<<62-1, -1<<62, -1, 0, 1, 1<<62-1, 1<<62, greatest-1, greatest)
}

// filters: all that there are.
func filters() []api.Filter {
	return []api.Filter{api.Dubuc97, api.LeGall, api.Dubuc137, api.Haar, api.HaarOne}
}

// wrongFilters that there aren't.
func wrongFilters() []api.Filter {
	return []api.Filter{-1, -2, 5, 6, 255, 256, 1 << 32, -1 << 32, greatest - 1, greatest, least, least + 1}
}

// wrongDepths that there aren't.
func wrongDepths() []int {
	return []int{-1, -2, -6, -63, -64, -65, 7, 8, 9, 10, 31, 32, 62, 63, 64, 65, 1 << 32, 1<<32 + 1, -1 << 32, greatest - 1, greatest, least, least + 1}
}

// sides of planes: the least, one row, one column, those that fit no depth but 0, some depths, by one side alone, and all of them.
func sides() [][2]int {
	return [][2]int{{1, 1}, {7, 1}, {1, 8}, {3, 2}, {2, 2}, {4, 2}, {2, 4}, {4, 4}, {6, 4}, {4, 10}, {8, 3}, {8, 24}, {48, 16}, {32, 64}, {64, 32},
		{64, 64}, {128, 64}, {64, 192}, {96, 64}, {66, 64}, {64, 65}, {most, 1}, {1, most}, {most, 2}, {2, most}, {most, 64}, {64, most}}
}

// fewSides: those whose levels are looked at at a high price.
func fewSides() [][2]int {
	return [][2]int{{1, 1}, {3, 2}, {2, 2}, {4, 2}, {2, 4}, {4, 4}, {6, 4}, {4, 10}, {8, 24}, {40, 8}, {48, 16}, {32, 64}, {64, 64}, {128, 64}, {64, 192}}
}

// wrongPlanes by name: most of them would fit, were they right.
func wrongPlanes() map[string]api.Plane {
	out := map[string]api.Plane{
		"zero":                  {},
		"numbers without sides": {V: []int{1, 2, 3, 4}},
		"nil":                   {W: 2, H: 2},
		"room alone":            {W: 2, H: 2, V: make([]int, 0, 4)},
		"one too few":           {W: 2, H: 2, V: []int{1, 2, 3}},
		"one too many":          {W: 2, H: 2, V: []int{1, 2, 3, 4, 5}},
		"none, 1 by 1":          {W: 1, H: 1},
		"a row too few":         {W: 64, H: 64, V: make([]int, 64*63)},
		"a row too many":        {W: 64, H: 64, V: make([]int, 64*65)},
		"both below 0":          {W: -2, H: -2, V: []int{1, 2, 3, 4}},
		"both below 0, 64":      {W: -64, H: -64, V: make([]int, 64*64)},
		"one too wide":          {W: most + 1, H: 1, V: make([]int, most+1)},
		"one too high":          {W: 1, H: most + 1, V: make([]int, most+1)},
		"64 too wide":           {W: most + 64, H: 64, V: make([]int, (most+64)*64)},
		"64 too high":           {W: 64, H: most + 64, V: make([]int, (most+64)*64)},
		"twice as wide":         {W: 2 * most, H: 64, V: make([]int, 2*most*64)},
		"most, one too few":     {W: most, H: most, V: make([]int, most*most-1)},
		"most, one too many":    {W: most, H: most, V: make([]int, most*most+1)},
		"wraps to 0":            {W: 1 << 32, H: 1 << 32},
		"wraps to 0, 4 high":    {W: 1 << 62, H: 4},
		"wraps to 8":            {W: 1<<61 + 1, H: 8, V: make([]int, 8)},
		"wraps to 1":            {W: greatest, H: greatest, V: []int{1}},
		"least by least":        {W: least, H: least},
	}
	for _, n := range []int{0, -1, -64, most + 1, least, greatest} {
		for _, count := range []int{0, 1, 64} {
			out[fmt.Sprint(n, " wide, ", count)] = api.Plane{W: n, H: 64, V: make([]int, count)}
			out[fmt.Sprint(n, " high, ", count)] = api.Plane{W: 1, H: n, V: make([]int, count)}
		}
	}
	return out
}

// clone of a plane, right or not: the numbers are its own.
func clone(p api.Plane) api.Plane {
	return api.Plane{W: p.W, H: p.H, V: slices.Clone(p.V)}
}

func wantPlane(t *testing.T, what string, got, want api.Plane) {
	t.Helper()
	if got.W != want.W || got.H != want.H || len(got.V) != len(want.V) {
		t.Fatalf("%s: %d by %d, %d numbers, not %d by %d, %d numbers", what, got.W, got.H, len(got.V), want.W, want.H, len(want.V))
	}
	for i, v := range want.V {
		if got.V[i] != v {
			t.Fatalf("%s: %d, not %d, at %d, %d", what, got.V[i], v, i%want.W, i/want.W)
		}
	}
}

func wantNone(t *testing.T, what string, got api.Plane) {
	t.Helper()
	if got.W != 0 || got.H != 0 || len(got.V) != 0 {
		t.Fatalf("%s: %d by %d, %d numbers", what, got.W, got.H, len(got.V))
	}
}

// fits by the chapter's words: may both sides be halved so often?
func fits(w, h, depth int) bool {
	for range depth {
		if w%2 != 0 || h%2 != 0 {
			return false
		}
		w, h = w/2, h/2
	}
	return true
}

// deepest that a plane fits.
func deepest(w, h int) int {
	depth := 0
	for depth < 6 && fits(w, h, depth+1) {
		depth++
	}
	return depth
}

// stood: where what was at a place of a line stands anew.
func stood(i, count int) int {
	if i%2 == 0 {
		return i / 2
	}
	return count/2 + i/2
}

// lines of a plane in turn: its rows, or its columns.
func lines(p api.Plane, across bool, turn func(l []int) []int) {
	count, other, next, first := p.W, p.H, 1, p.W
	if !across {
		count, other, next, first = p.H, p.W, p.W, 1
	}
	for n := range other {
		var l []int
		for i := range count {
			l = append(l, p.V[n*first+i*next])
		}
		for i, v := range turn(l) {
			p.V[n*first+i*next] = v
		}
	}
}

// levelThere by the chapter's words, one after the other.
func levelThere(f api.Filter, p api.Plane) api.Plane {
	q := clone(p)
	for i, v := range p.V {
		if f != api.Haar {
			q.V[i] = v + v
		}
	}
	forward := func(l []int) []int { return lift.Forward(f, l) }
	lines(q, true, forward)
	lines(q, false, forward)
	out := plane.New(p.W, p.H)
	for i, v := range q.V {
		out.V[stood(i/p.W, p.H)*p.W+stood(i%p.W, p.W)] = v
	}
	return out
}

// halfDown: a number and 1, divided by 2, to the next lower number.
func halfDown(v int) int {
	v++
	if v < 0 && v%2 != 0 {
		return v/2 - 1
	}
	return v / 2
}

// levelBack by the chapter's words, one after the other.
func levelBack(f api.Filter, p api.Plane) api.Plane {
	q := clone(p)
	for i := range q.V {
		q.V[i] = p.V[stood(i/p.W, p.H)*p.W+stood(i%p.W, p.W)]
	}
	inverse := func(l []int) []int { return lift.Inverse(f, l) }
	lines(q, false, inverse)
	lines(q, true, inverse)
	for i, v := range q.V {
		if f != api.Haar {
			q.V[i] = halfDown(v)
		}
	}
	return q
}

// ofPart: p with its part, of sides that are halved so often, as a function turns it.
func ofPart(p api.Plane, times int, turn func(p api.Plane) api.Plane) api.Plane {
	out := clone(p)
	part := turn(plane.Crop(p, p.W>>times, p.H>>times))
	for i, v := range part.V {
		out.V[i/part.W*p.W+i%part.W] = v
	}
	return out
}

// forward by the chapter's words: the whole plane first.
func forward(f api.Filter, p api.Plane, depth int) api.Plane {
	for times := range depth {
		p = ofPart(p, times, func(p api.Plane) api.Plane { return levelThere(f, p) })
	}
	return p
}

// inverse by the chapter's words: the least part first.
func inverse(f api.Filter, p api.Plane, depth int) api.Plane {
	for times := range depth {
		p = ofPart(p, depth-1-times, func(p api.Plane) api.Plane { return levelBack(f, p) })
	}
	return p
}

// P9.1: which planes fit a depth, and the transform there and back.

func TestFitsThatWereWorkedOut(t *testing.T) {
	for s, most := range map[[2]int]int{{1, 1}: 0, {1, 64}: 0, {64, 1}: 0, {3, 3}: 0, {7, 8}: 0, {8, 7}: 0, {2, 2}: 1, {6, 4}: 1, {4, 6}: 1, {2, 1024}: 1,
		{1024, 2}: 1, {12, 20}: 2, {1000, 1000}: 3, {1000, 1024}: 3, {16, 16}: 4, {16, 32}: 4, {48, 64}: 4, {32, 32}: 5, {96, 64}: 5, {64, 96}: 5,
		{1024, 32}: 5, {64, 64}: 6, {128, 64}: 6, {64, 192}: 6, {960, 1024}: 6, {1024, 1024}: 6, {1023, 1024}: 0, {1022, 1024}: 1} {
		p := plane.New(s[0], s[1])
		for depth := range 7 {
			if got := wave.Fits(p, depth); got != (depth <= most) {
				t.Errorf("%v fits %d: %v", s, depth, got)
			}
		}
	}
}

func TestFitsByTheChaptersWords(t *testing.T) {
	all := []int{1, 2, 3, 4, 6, 8, 12, 15, 16, 17, 24, 31, 32, 33, 40, 48, 63, 64, 65, 80, 96, 127, 128, 160, 192, 320, 1000, 1008, 1016, 1020, 1022, 1023, 1024}
	for _, w := range all {
		for _, h := range all {
			p := plane.New(w, h)
			for depth := range 7 {
				if got, want := wave.Fits(p, depth), fits(w, h, depth); got != want {
					t.Errorf("%d by %d fits %d: %v", w, h, depth, got)
				}
			}
		}
	}
}

func TestRoomDoesNotCount(t *testing.T) {
	p := api.Plane{W: 2, H: 2, V: make([]int, 4, 9)}
	if !wave.Fits(p, 1) || !plane.Right(wave.Forward(api.Haar, p, 1)) || !plane.Right(wave.Pad(p, 1)) {
		t.Error("room behind the numbers counts")
	}
}

func TestNoPlaneFitsAWrongDepth(t *testing.T) {
	for _, s := range [][2]int{{1, 1}, {64, 64}, {128, 128}, {most, most}} {
		for _, depth := range wrongDepths() {
			if wave.Fits(plane.New(s[0], s[1]), depth) {
				t.Errorf("%v fits %d", s, depth)
			}
		}
	}
}

func TestWrongPlanesFitNoDepth(t *testing.T) {
	for name, p := range wrongPlanes() {
		for _, depth := range append(wrongDepths(), 0, 1, 2, 3, 4, 5, 6) {
			if wave.Fits(p, depth) {
				t.Errorf("%s fits %d", name, depth)
			}
		}
	}
}

// wantNoTransform of a plane, there or back.
func wantNoTransform(t *testing.T, what string, f api.Filter, p api.Plane, depth int) {
	t.Helper()
	what = fmt.Sprint(" ", f, " of ", what, ", depth ", depth)
	wantNone(t, "Forward"+what, wave.Forward(f, p, depth))
	wantNone(t, "Inverse"+what, wave.Inverse(f, p, depth))
}

func TestNoneOfWrongFilters(t *testing.T) {
	for _, f := range wrongFilters() {
		for _, depth := range append(wrongDepths(), 0, 1, 2, 3, 4, 5, 6) {
			wantNoTransform(t, "a square", f, drawn(64, 64, 9), depth)
			wantNoTransform(t, "one number", f, drawn(1, 1, 9), depth)
			wantNoTransform(t, "the zero plane", f, api.Plane{}, depth)
		}
	}
}

func TestNoneOfWrongDepths(t *testing.T) {
	for _, depth := range wrongDepths() {
		for _, f := range filters() {
			wantNoTransform(t, "one number", f, drawn(1, 1, 9), depth)
			wantNoTransform(t, "a square", f, drawn(64, 64, 9), depth)
			wantNoTransform(t, "a greater one", f, drawn(128, 256, 9), depth)
		}
	}
}

func TestNoneOfWrongPlanes(t *testing.T) {
	for name, p := range wrongPlanes() {
		for _, f := range filters() {
			for depth := range 7 {
				wantNoTransform(t, name, f, p, depth)
			}
		}
	}
}

func TestNoneOfPlanesThatDoNotFit(t *testing.T) {
	for _, s := range sides() {
		p := drawn(s[0], s[1], 9)
		for _, f := range filters() {
			for depth := deepest(s[0], s[1]) + 1; depth <= 6; depth++ {
				wantNoTransform(t, fmt.Sprint(s), f, p, depth)
			}
		}
	}
}

func TestDepthNoughtIsThePlaneAsItIs(t *testing.T) {
	for _, s := range append(sides(), [2]int{most, most}) {
		for _, p := range []api.Plane{drawn(s[0], s[1], 64), edged(s[0], s[1])} {
			for _, f := range filters() {
				wantPlane(t, fmt.Sprint("Forward ", f, " of ", s), wave.Forward(f, p, 0), p)
				wantPlane(t, fmt.Sprint("Inverse ", f, " of ", s), wave.Inverse(f, p, 0), p)
			}
		}
	}
}

// worked: what Forward and Inverse make of a plane's numbers.
type worked struct {
	there, back []int
}

// wantWorked of each filter.
func wantWorked(t *testing.T, p api.Plane, depth int, cases map[api.Filter]worked) {
	t.Helper()
	for _, f := range filters() {
		c := cases[f]
		wantPlane(t, fmt.Sprint("Forward ", f), wave.Forward(f, p, depth), api.Plane{W: p.W, H: p.H, V: c.there})
		wantPlane(t, fmt.Sprint("Inverse ", f), wave.Inverse(f, p, depth), api.Plane{W: p.W, H: p.H, V: c.back})
	}
}

func TestTwoByTwoThatWasWorkedOut(t *testing.T) {
	p := api.Plane{W: 2, H: 2, V: []int{3, -8, 10, 101}}
	wantWorked(t, p, 1, map[api.Filter]worked{
		api.Dubuc97: {
			[]int{53, 80, 116, 204},
			[]int{14, -16, -6, 15},
		},
		api.LeGall: {
			[]int{53, 80, 116, 204},
			[]int{14, -16, -6, 15},
		},
		api.Dubuc137: {
			[]int{53, 80, 116, 204},
			[]int{14, -16, -6, 15},
		},
		api.Haar: {
			[]int{27, 40, 58, 102},
			[]int{27, -32, -13, 29},
		},
		api.HaarOne: {
			[]int{53, 80, 116, 204},
			[]int{14, -16, -6, 15},
		},
	})
}

func TestEightByTwoThatWasWorkedOut(t *testing.T) {
	p := api.Plane{W: 8, H: 2, V: []int{10, 12, 20, 7, 5, 5, 8, 100, -1, 7, -8, 100, 3, 44, -60, 2}}
	wantWorked(t, p, 1, map[api.Filter]worked{
		api.Dubuc97: {
			[]int{13, 38, 50, 6, 8, 93, 72, 158, -6, 5, 85, -113, 32, 210, 145, -52},
			[]int{4, 6, 6, 2, 10, 5, -38, 8, 3, 6, 4, 19, 8, 3, 19, 70},
		},
		api.LeGall: {
			[]int{14, 39, 51, 4, 9, 97, 71, 154, -7, 5, 87, -114, 29, 216, 148, -60},
			[]int{4, 7, 6, -1, 10, 5, -38, 11, 3, 7, 4, 19, 8, 2, 19, 69},
		},
		api.Dubuc137: {
			[]int{11, 38, 49, 5, 8, 93, 72, 158, -11, 6, 96, -115, 32, 210, 145, -52},
			[]int{4, 7, 7, 4, 11, 5, -39, 7, 4, 6, 3, 19, 9, 4, 20, 71},
		},
		api.Haar: {
			[]int{7, 30, 15, 13, 5, 48, 21, 77, -8, 32, 19, -83, 6, 121, 41, -30},
			[]int{8, 11, 16, -1, 5, 43, -93, 6, 6, 12, 1, 28, 27, 5, 6, 107},
		},
		api.HaarOne: {
			[]int{14, 60, 29, 25, 10, 95, 41, 154, -16, 65, 37, -166, 12, 242, 82, -60},
			[]int{4, 6, 8, 0, 3, 22, -46, 3, 3, 6, 1, 14, 14, 3, 3, 54},
		},
	})
}

func TestTwoByEightThatWasWorkedOut(t *testing.T) {
	p := api.Plane{W: 2, H: 8, V: []int{10, 12, 20, 7, 5, 5, 8, 100, -1, 7, -8, 100, 3, 44, -60, 2}}
	wantWorked(t, p, 1, map[api.Filter]worked{
		api.Dubuc97: {
			[]int{28, -9, 39, 38, 48, 103, 37, 133, 11, -27, 103, 180, 66, 166, -108, 38},
			[]int{3, 7, 8, 9, 16, 6, -13, 19, 11, -5, -10, 26, -11, 33, -43, 6},
		},
		api.LeGall: {
			[]int{28, -10, 38, 37, 47, 102, 37, 134, 11, -28, 100, 176, 65, 167, -105, 42},
			[]int{3, 7, 7, 8, 16, 6, -16, 22, 11, -5, -10, 27, -11, 33, -41, 4},
		},
		api.Dubuc137: {
			[]int{25, -16, 40, 39, 57, 113, 35, 133, 11, -27, 103, 180, 66, 166, -108, 38},
			[]int{2, 8, 8, 9, 17, 6, -13, 18, 11, -7, -10, 25, -11, 34, -43, 7},
		},
		api.Haar: {
			[]int{13, -5, 30, 46, 25, 58, -2, 52, 3, -15, 49, 92, 43, 100, -53, 21},
			[]int{6, 14, 1, 16, 45, 2, -13, 44, 11, -6, -8, 19, -12, 87, -73, 28},
		},
		api.HaarOne: {
			[]int{25, -11, 59, 92, 49, 116, -5, 103, 5, -30, 98, 184, 86, 200, -105, 42},
			[]int{3, 7, 1, 8, 23, 1, -6, 22, 6, -3, -4, 10, -6, 44, -36, 14},
		},
	})
}

// Sides that are no powers of 2.
func TestSixByFourThatWasWorkedOut(t *testing.T) {
	p := api.Plane{W: 6, H: 4, V: []int{9, -4, 33, 8, -70, 5, 1, 0, 77, -12, 50, 6, -31, 64, 2, 19, -3, 11, 90, 7, -25, 40, 13, -8}}
	wantWorked(t, p, 1, map[api.Filter]worked{
		api.Dubuc97: {
			[]int{-33, 81, -48, -127, -52, 73, 41, 40, 36, 70, 2, -33, -40, 36, 77, -128, -204, -181, 139, -86, 25, -216, 72, -68},
			[]int{13, -1, -9, -28, 25, 26, -14, 5, 20, 20, 30, 37, 0, -22, -11, 35, 35, 41, 34, 13, -15, 34, 23, 24},
		},
		api.LeGall: {
			[]int{-28, 86, -49, -116, -45, 62, 41, 39, 38, 72, 3, -34, -42, 37, 79, -132, -197, -177, 138, -93, 28, -208, 53, -70},
			[]int{13, 1, -9, -26, 25, 24, -14, 5, 20, 18, 30, 37, 0, -19, -11, 36, 35, 38, 35, 17, -14, 34, 22, 21},
		},
		api.Dubuc137: {
			[]int{-41, 80, -45, -124, -61, 69, 43, 40, 33, 70, 2, -33, -38, 35, 74, -128, -204, -181, 130, -82, 34, -216, 72, -68},
			[]int{13, -1, -9, -27, 25, 27, -13, 5, 20, 21, 30, 37, 1, -22, -12, 34, 34, 40, 35, 13, -16, 33, 22, 23},
		},
		api.Haar: {
			[]int{2, 27, -2, -7, -57, 16, 33, 10, 4, 6, 41, -3, -2, 12, 60, 12, -64, -119, 32, -3, -1, -178, 48, -35},
			[]int{25, 23, -2, -71, 32, 31, -16, 1, 64, -8, 29, 39, -28, -60, -26, 17, 84, 94, 42, 50, -25, 31, 63, 65},
		},
		api.HaarOne: {
			[]int{3, 53, -4, -14, -114, 31, 65, 18, 7, 12, 82, -7, -4, 24, 121, 24, -128, -238, 64, -6, -3, -356, 96, -70},
			[]int{13, 12, -1, -35, 16, 16, -8, 1, 32, -4, 15, 20, -14, -30, -13, 9, 42, 47, 21, 25, -12, 16, 32, 33},
		},
	})
}

func TestTwoLevelsOfASquareThatWereWorkedOut(t *testing.T) {
	p := api.Plane{W: 4, H: 4, V: []int{9, -4, 33, 8, -70, 5, 1, 0, 77, -12, 50, 6, -31, 64, 2, 19}}
	wantWorked(t, p, 2, map[api.Filter]worked{
		api.Dubuc97: {
			[]int{10, 114, 40, -24, 112, -188, -28, -41, -136, -22, 179, 58, -67, 10, 314, 117},
			[]int{-9, 5, 12, 16, 17, 26, -13, -12, -9, -16, -11, -14, -25, -9, 18, 26},
		},
		api.LeGall: {
			[]int{12, 114, 40, -16, 112, -196, -29, -41, -136, -20, 179, 67, -62, 12, 308, 122},
			[]int{-9, 5, 12, 14, 17, 26, -13, -10, -9, -16, -11, -14, -25, -8, 19, 25},
		},
		api.Dubuc137: {
			[]int{9, 114, 35, -26, 114, -188, -28, -41, -133, -22, 179, 58, -61, 10, 314, 117},
			[]int{-10, 4, 13, 17, 16, 26, -12, -10, -9, -16, -11, -14, -24, -9, 18, 26},
		},
		api.Haar: {
			[]int{11, 10, 31, -13, 24, -30, 3, -13, -35, -20, 88, 24, -16, -17, 184, 61},
			[]int{4, 12, 43, 48, 56, 114, 28, 39, -10, -10, -54, -64, -42, -40, 0, 9},
		},
		api.HaarOne: {
			[]int{40, 41, 62, -26, 97, -122, 6, -27, -70, -40, 176, 48, -32, -35, 368, 122},
			[]int{-9, -5, 12, 14, 17, 46, 4, 10, 2, 2, -20, -25, -14, -13, 7, 12},
		},
	})
}

func TestTwoLevelsOfAWidePlaneThatWereWorkedOut(t *testing.T) {
	p := api.Plane{W: 8, H: 4, V: []int{9, -4, 33, 8, -70, 5, 1, 0, 77, -12, 50, 6, -31, 64, 2, 19, -3, 11, 90, 7, -25, 40, 13, -8, 21, -55, 4, 17, -9, 38, 66, -2}}
	wantWorked(t, p, 2, map[api.Filter]worked{
		api.Dubuc97: {
			[]int{110, -3, 170, 195, -108, 59, 126, 19, -58, 124, 95, -78, -116, -29, 102, -56, 103, -46, 50, 21, -90, -1, 68, 59, 21, -165, 34, 59, -57, 115, -86, -96},
			[]int{7, -22, 4, -17, -20, -14, 0, 3, 12, -20, 14, 45, 18, 9, -1, 0, 8, 3, 17, 19, -22, -26, -8, 4, 21, -10, -14, 16, -32, 2, -8, 4},
		},
		api.LeGall: {
			[]int{122, -8, 173, 193, -97, 49, 115, 26, -57, 135, 97, -70, -106, -30, 92, -51, 101, -48, 49, 22, -94, -8, 71, 56, 13, -167, 37, 64, -70, 90, -73, -94},
			[]int{7, -23, 4, -15, -20, -13, -1, 1, 12, -20, 14, 43, 18, 9, -1, 1, 8, 1, 17, 20, -22, -23, -7, 3, 21, -13, -15, 17, -33, 4, -7, 3},
		},
		api.Dubuc137: {
			[]int{98, 9, 162, 183, -109, 55, 131, 23, -56, 121, 86, -68, -116, -29, 102, -56, 99, -48, 53, 23, -90, -1, 68, 59, 16, -159, 40, 53, -57, 115, -86, -96},
			[]int{8, -21, 3, -18, -22, -14, 0, 4, 14, -19, 13, 42, 15, 9, 0, 2, 9, 3, 16, 18, -22, -26, -7, 5, 23, -9, -14, 14, -35, 1, -7, 4},
		},
		api.Haar: {
			[]int{17, 8, 22, 10, -51, -34, 85, 8, -10, 15, 29, -7, -31, -35, 56, -44, 30, 7, 49, 10, -76, -19, 20, 18, -21, -38, 7, 29, -90, 96, -18, -47},
			[]int{-4, -62, -25, -40, -43, -49, -2, 2, 5, -78, -34, -9, 40, 47, 9, 5, 20, -7, 80, 125, -3, -34, -24, -4, 46, 10, 6, 89, -32, 3, -6, 12},
		},
		api.HaarOne: {
			[]int{65, 26, 86, 40, -102, -69, 170, 16, -38, 62, 116, -28, -62, -70, 112, -89, 60, 15, 98, 20, -152, -38, 40, 36, -42, -76, 14, 59, -180, 192, -36, -94},
			[]int{7, -22, -6, -13, -21, -24, -2, 0, 11, -30, -10, 2, 21, 24, 4, 2, 6, -8, 21, 44, 3, -13, -10, 0, 19, 1, -16, 26, -12, 6, -1, 8},
		},
	})
}

func TestTwoLevelsOfAHighPlaneThatWereWorkedOut(t *testing.T) {
	p := api.Plane{W: 4, H: 8, V: []int{9, -4, 33, 8, -70, 5, 1, 0, 77, -12, 50, 6, -31, 64, 2, 19, -3, 11, 90, 7, -25, 40, 13, -8, 21, -55, 4, 17, -9, 38, 66, -2}}
	wantWorked(t, p, 2, map[api.Filter]worked{
		api.Dubuc97: {
			[]int{-19, 83, 43, -27, 66, 145, -38, -28, 54, -274, 49, -125, -85, -233, -49, -10, -143, -17, 185, 52, -8, -38, 267, 176, 35, -18, 187, 34, 16, 129, 158, -186},
			[]int{-4, -12, -9, -7, -15, 22, -9, -4, 17, -4, 0, -1, -21, 6, 7, 5, -30, -5, -26, -23, -25, -28, -55, -43, -33, -34, -20, -11, -54, -8, -8, 2},
		},
		api.LeGall: {
			[]int{-17, 71, 40, -16, 72, 157, -40, -31, 54, -282, 49, -119, -86, -244, -48, -7, -136, -20, 179, 67, -4, -29, 265, 161, 27, -13, 192, 28, 17, 122, 154, -162},
			[]int{-4, -12, -9, -7, -17, 22, -11, -6, 17, -4, 0, 0, -22, 4, 7, 4, -30, -5, -26, -24, -22, -27, -52, -39, -32, -33, -19, -11, -53, -5, -8, -1},
		},
		api.Dubuc137: {
			[]int{-19, 95, 40, -31, 68, 129, -35, -24, 51, -259, 52, -115, -90, -201, -51, -14, -139, -17, 185, 52, -5, -38, 267, 176, 40, -18, 187, 34, 28, 129, 158, -186},
			[]int{-4, -13, -9, -7, -15, 20, -10, -5, 18, -4, -1, -2, -22, 7, 6, 5, -32, -3, -25, -23, -26, -27, -53, -42, -34, -33, -18, -10, -56, -8, -7, 3},
		},
		api.Haar: {
			[]int{11, 10, 31, -13, 14, 22, 3, -13, 24, -30, 40, -52, -5, 3, -14, -27, -35, -20, 88, 24, -16, -17, 184, 61, 4, -46, 51, 62, 32, 21, 123, -81},
			[]int{-24, -36, -37, -33, -72, 6, -30, -19, 67, 61, 20, 24, 35, 42, 64, 60, -77, -29, -41, -44, -58, -6, -104, -90, -86, -117, -97, -77, -128, -93, -58, -40},
		},
		api.HaarOne: {
			[]int{40, 41, 62, -26, 52, 84, 6, -27, 97, -122, 79, -104, -22, 12, -29, -55, -70, -40, 176, 48, -32, -35, 368, 122, 7, -92, 102, 124, 63, 43, 246, -162},
			[]int{-4, -10, -11, -9, -28, 11, -7, -2, 21, 18, 0, 2, 5, 8, 22, 20, -28, -4, -3, -4, -18, 8, -34, -27, -16, -32, -31, -21, -37, -20, -12, -3},
		},
	})
}

// What goes beyond 64 bits is lost: of the doubling, of the steps, and of 1 that is added ahead of the halving.
func TestUnlikeEndsThatWereWorkedOut(t *testing.T) {
	p := api.Plane{W: 2, H: 2, V: []int{greatest, least, 1 << 62, -1<<62 - 1}}
	wantWorked(t, p, 1, map[api.Filter]worked{
		api.Dubuc97: {
			[]int{-1, 0, least, greatest - 3},
			[]int{-4035225266123964416, -3458764513820540928, 3458764513820540928, -1<<61 - 1},
		},
		api.LeGall: {
			[]int{-1, 0, least, greatest - 3},
			[]int{-4035225266123964416, -2882303761517117440, 4035225266123964416, -1729382256910270465},
		},
		api.Dubuc137: {
			[]int{-1, 0, least, greatest - 3},
			[]int{-1 << 62, -1 << 62, 1 << 61, -1<<61 - 1},
		},
		api.Haar: {
			[]int{1 << 62, 1 << 62, least, greatest - 1},
			[]int{-8070450532247928833, 3458764513820540927, 8070450532247928831, -3458764513820540930},
		},
		api.HaarOne: {
			[]int{-1<<62 - 1, 0, least, -4},
			[]int{-4035225266123964416, 1729382256910270464, 4035225266123964416, -1729382256910270465},
		},
	})
}

func TestGreatestNumbersThatWereWorkedOut(t *testing.T) {
	p := api.Plane{W: 2, H: 2, V: []int{greatest, greatest, greatest, greatest}}
	wantWorked(t, p, 1, map[api.Filter]worked{
		api.Dubuc97: {
			[]int{-2, 0, 0, 0},
			[]int{-1 << 62, 1<<62 - 1, -1 << 62, 1<<62 - 1},
		},
		api.LeGall: {
			[]int{-2, 0, 0, 0},
			[]int{-1 << 62, 1<<62 - 1, -1 << 62, 1<<62 - 1},
		},
		api.Dubuc137: {
			[]int{-2, 0, 0, 0},
			[]int{-1 << 62, 1<<62 - 1, -1 << 62, 1<<62 - 1},
		},
		api.Haar: {
			[]int{greatest, 0, 0, 0},
			[]int{-1<<61 - 1, -3<<61 - 2, 1<<61 - 1, 3<<61 - 3},
		},
		api.HaarOne: {
			[]int{-2, 0, 0, 0},
			[]int{-1152921504606846976, -3458764513820540929, 1152921504606846976, 3458764513820540927},
		},
	})
}

func TestLeastNumbersThatWereWorkedOut(t *testing.T) {
	p := api.Plane{W: 2, H: 2, V: []int{least, least, least, least}}
	wantWorked(t, p, 1, map[api.Filter]worked{
		api.Dubuc97: {
			[]int{0, 0, 0, 0},
			[]int{-1 << 62, -1 << 62, -1 << 62, -1 << 62},
		},
		api.LeGall: {
			[]int{0, 0, 0, 0},
			[]int{-1 << 62, -1 << 62, -1 << 62, -1 << 62},
		},
		api.Dubuc137: {
			[]int{0, 0, 0, 0},
			[]int{-1 << 62, -1 << 62, -1 << 62, -1 << 62},
		},
		api.Haar: {
			[]int{least, 0, 0, 0},
			[]int{-1 << 61, -3 << 61, 1 << 61, 3 << 61},
		},
		api.HaarOne: {
			[]int{0, 0, 0, 0},
			[]int{-1152921504606846976, -3458764513820540928, 1152921504606846976, 3458764513820540928},
		},
	})
}

func TestTwoLevelsOfEndsThatWereWorkedOut(t *testing.T) {
	p := api.Plane{W: 4, H: 4, V: []int{greatest, greatest, least, least, 0, least, -1, greatest, 1 << 62, -1 << 62, -1<<62 - 1, 1<<62 - 1, least + 1, greatest - 1, 1 << 61, -5}}
	wantWorked(t, p, 2, map[api.Filter]worked{
		api.Dubuc97: {
			[]int{567453553048682495, 846676729945653245, 0, 0, 1134907106097364991, 1693353459891306486, -9079256848778919936, -9151314442816847874, 1, -1, 1, 0, 576460752303423487, 3963167672086036478, 576460752303423482, 288230376151711734},
			[]int{-1729382256910270464, -3458764513820540928, 2882303761517117440, -3170534137668829184, 3098476543630901248, -2179742219647320064, -1981583836043018240, 2024368032503037951, 432345564227567616, 252201579132747776, 648518346341351424, 4120793659044003840, 4170333254945079297, 1276770494359535616, 4255901647865118719, 117938015241764861},
		},
		api.LeGall: {
			[]int{-6413125869375586305, 8502796096475496445, -1 << 61, -1 << 61, -3602879701896396801, -1441151880758558730, -8646911284551352320, -3<<61 - 2, 1<<62 + 1, -1<<62 - 1, 1<<62 + 1, 1 << 62, -1152921504606846977, 5188146770730811390, -1<<61 - 6, 1<<62 - 10},
			[]int{-1729382256910270464, -2882303761517117440, 2882303761517117440, 4035225266123964416, 1657324662872342528, 4161326055690338304, -3999196469105000448, 3206562934687793151, 432345564227567616, 828662331436171264, 648518346341351424, -4539628424389459968, 4467570830351532033, 2125699024118874112, -3098476543630901249, 936748722493063165},
		},
		api.Dubuc137: {
			[]int{-367184107119050754, -414049690741374978, -18014398509481984, -9007199254740992, 702843016846508032, -405886916416765964, -9079256848778919936, -9151314442816847874, 2, -1, 1, 0, 585467951558164479, 3963167672086036478, 576460752303423482, 288230376151711734},
			[]int{-2293458110238425088, -4537939574529196032, 2224778215921025024, -4482418635373019136, 2456150646777184256, -2196912193226670080, -2346375405860028416, 2505584689561993215, -144115188075855871, -72057594037927936, 1 << 61, -4458563631096791040, -4369265694735335423, 1522111120934961152, 4544694973970251775, -81825655339089923},
		},
		api.Haar: {
			[]int{-7926335344172072960, -4323455642275676160, -1 << 62, -1 << 62, -2017612633061982208, -8646911284551352321, -1<<62 - 1, -5764607523034234882, 1<<62 + 1, 1<<62 - 1, least, least, least, -8070450532247928833, greatest - 2, 3<<61 - 5},
			[]int{-5764607523034234881, 5764607523034234879, 5764607523034234878, -5764607523034234882, -8070450532247928833, -1152921504606846978, 8070450532247928830, 1152921504606846973, -6341068275337658370, -7493989779944505347, -3<<61 - 2, 1<<61 - 1, 1729382256910270463, 2882303761517117438, -3<<61 - 1, 1<<61 - 5},
		},
		api.HaarOne: {
			[]int{-4035225266123964418, 1152921504606846973, 0, 0, -8070450532247928833, 1<<61 - 6, -3, -1<<61 - 5, 2, -2, 0, 0, greatest, -3<<61 - 3, -6, -1<<62 - 10},
			[]int{-1152921504606846976, -1 << 62, 1152921504606846976, -1 << 62, -1 << 61, 1152921504606846976, 1 << 61, -1152921504606846977, 4323455642275676160, 3746994889972252671, -1729382256910270464, 2882303761517117440, -864691128455135232, -288230376151711744, -1729382256910270464, 2882303761517117438},
		},
	})
}

// wantWords: both ways as the chapter's words have them.
func wantWords(t *testing.T, what string, p api.Plane, depth int) {
	t.Helper()
	for _, f := range filters() {
		what := fmt.Sprint(" ", f, " of ", p.W, " by ", p.H, ", ", what, ", depth ", depth)
		wantPlane(t, "Forward"+what, wave.Forward(f, p, depth), forward(f, p, depth))
		wantPlane(t, "Inverse"+what, wave.Inverse(f, p, depth), inverse(f, p, depth))
	}
}

func TestTransformsByTheChaptersWords(t *testing.T) {
	for _, s := range fewSides() {
		for depth := range deepest(s[0], s[1]) + 1 {
			wantWords(t, "9 bits", drawn(s[0], s[1], 9), depth)
			wantWords(t, "34 bits", drawn(s[0], s[1], 34), depth)
			wantWords(t, "64 bits", drawn(s[0], s[1], 64), depth)
			wantWords(t, "the ends", edged(s[0], s[1]), depth)
		}
	}
}

func TestLongSidesByTheChaptersWords(t *testing.T) {
	for _, s := range [][2]int{{most, 2}, {2, most}, {most, 64}, {64, most}} {
		wantWords(t, "17 bits", drawn(s[0], s[1], 17), deepest(s[0], s[1]))
	}
}

// Each place by itself, so that no number of another one hides where it goes.
func TestOneNumberAtEachPlace(t *testing.T) {
	for _, s := range [][2]int{{2, 2}, {4, 2}, {2, 6}, {8, 4}, {4, 8}, {8, 8}} {
		for i := range s[0] * s[1] {
			for _, n := range []int{1, -1000, least} {
				p := plane.New(s[0], s[1])
				p.V[i] = n
				for depth := range deepest(s[0], s[1]) + 1 {
					wantWords(t, fmt.Sprint(n, " at ", i), p, depth)
				}
			}
		}
	}
}

// One number all over is that number, as often doubled as there are levels, in the least part, and noughts elsewhere.
func TestOneNumberAllOver(t *testing.T) {
	for _, f := range filters() {
		for depth := range 7 {
			for _, n := range []int{0, 1, -1, 255, -65535, far, -far} {
				want := plane.New(128, 64)
				for i := range want.V {
					if i%128 < 128>>depth && i/128 < 64>>depth {
						want.V[i] = n << (depth * lift.Shift(f))
					}
				}
				wantPlane(t, fmt.Sprint(f, " of ", n, ", depth ", depth), wave.Forward(f, picked(128, 64, n), depth), want)
			}
		}
	}
}

// The levels but the first one are those of a part of half the sides, and leave the rest as it is.
func TestFurtherLevelsAreThoseOfAPart(t *testing.T) {
	for _, s := range [][2]int{{4, 4}, {8, 4}, {4, 12}, {64, 64}, {128, 64}, {64, 192}} {
		p := drawn(s[0], s[1], 40)
		for _, f := range filters() {
			for depth := 1; depth <= deepest(s[0], s[1]); depth++ {
				what := fmt.Sprint(" ", f, " of ", s, ", depth ", depth)
				there := ofPart(wave.Forward(f, p, 1), 1, func(q api.Plane) api.Plane { return wave.Forward(f, q, depth-1) })
				wantPlane(t, "Forward"+what, wave.Forward(f, p, depth), there)
				part := ofPart(p, 1, func(q api.Plane) api.Plane { return wave.Inverse(f, q, depth-1) })
				wantPlane(t, "Inverse"+what, wave.Inverse(f, p, depth), wave.Inverse(f, part, 1))
			}
		}
	}
}

// HaarOne is Haar of numbers that are doubled, one level long.
func TestHaarOneIsHaarOfDoubledNumbers(t *testing.T) {
	for _, s := range [][2]int{{2, 2}, {6, 4}, {64, 192}} {
		for _, p := range []api.Plane{drawn(s[0], s[1], 9), drawn(s[0], s[1], 64), edged(s[0], s[1])} {
			wantPlane(t, fmt.Sprint("Forward of ", s), wave.Forward(api.HaarOne, p, 1), wave.Forward(api.Haar, plane.Add(p, p), 1))
			want := wave.Inverse(api.Haar, p, 1)
			for i, v := range want.V {
				want.V[i] = halfDown(v)
			}
			wantPlane(t, fmt.Sprint("Inverse of ", s), wave.Inverse(api.HaarOne, p, 1), want)
		}
	}
}

// P9.2: sides that are padded, and planes.

// padded by the chapter's words: the first of the multiples, gone through from the least one on.
func padded(n, depth int) int {
	unit := 1
	for range depth {
		unit *= 2
	}
	for m := unit; ; m += unit {
		if m >= n {
			return m
		}
	}
}

func TestPaddedThatWereWorkedOut(t *testing.T) {
	type side struct{ n, depth int }
	for s, want := range map[side]int{{1, 0}: 1, {2, 0}: 2, {1023, 0}: 1023, {1024, 0}: 1024, {1, 1}: 2, {2, 1}: 2, {3, 1}: 4, {1023, 1}: 1024, {4, 2}: 4, {5, 2}: 8,
		{7, 3}: 8, {8, 3}: 8, {9, 3}: 16, {1, 4}: 16, {1008, 4}: 1008, {1009, 4}: 1024, {31, 5}: 32, {32, 5}: 32, {33, 5}: 64, {1, 6}: 64, {63, 6}: 64, {64, 6}: 64,
		{65, 6}: 128, {127, 6}: 128, {128, 6}: 128, {129, 6}: 192, {960, 6}: 960, {961, 6}: 1024, {1023, 6}: 1024, {1024, 6}: 1024} {
		if got := wave.Padded(s.n, s.depth); got != want {
			t.Errorf("%d, depth %d: %d, not %d", s.n, s.depth, got, want)
		}
	}
}

// No side that is right is padded to one that isn't.
func TestPaddedOfEachSide(t *testing.T) {
	for depth := range 7 {
		for n := 1; n <= most; n++ {
			if got, want := wave.Padded(n, depth), padded(n, depth); got != want || got > most {
				t.Errorf("%d, depth %d: %d, not %d", n, depth, got, want)
			}
		}
	}
}

func TestPaddedOfWrongSides(t *testing.T) {
	for _, n := range []int{0, -1, -2, -63, -64, -1024, 1025, 1026, 1087, 1088, 2048, 1 << 32, -1 << 32, least, least + 1, greatest - 63, greatest - 1, greatest} {
		for _, depth := range append(wrongDepths(), 0, 1, 2, 3, 4, 5, 6) {
			if got := wave.Padded(n, depth); got != 0 {
				t.Errorf("%d, depth %d: %d", n, depth, got)
			}
		}
	}
}

func TestPaddedOfWrongDepths(t *testing.T) {
	for _, depth := range wrongDepths() {
		for _, n := range []int{1, 2, 64, 128, 1000, most} {
			if got := wave.Padded(n, depth); got != 0 {
				t.Errorf("%d, depth %d: %d", n, depth, got)
			}
		}
	}
}

func TestPadThatWasWorkedOut(t *testing.T) {
	p := api.Plane{W: 3, H: 2, V: []int{1, 2, 3, 4, 5, 6}}
	for depth, want := range map[int]api.Plane{
		0: p,
		1: {W: 4, H: 2, V: []int{1, 2, 3, 3, 4, 5, 6, 6}},
		2: {W: 4, H: 4, V: []int{1, 2, 3, 3, 4, 5, 6, 6, 4, 5, 6, 6, 4, 5, 6, 6}},
	} {
		wantPlane(t, fmt.Sprint("depth ", depth), wave.Pad(p, depth), want)
	}
	tall := api.Plane{W: 1, H: 3, V: []int{least, 7, greatest}}
	wantPlane(t, "tall", wave.Pad(tall, 1), api.Plane{W: 2, H: 4, V: []int{least, least, 7, 7, greatest, greatest, greatest, greatest}})
}

// Sides at and beside multiples; padded to the greatest side, too.
func TestPadOfAnySides(t *testing.T) {
	more := [][2]int{{63, 65}, {65, 63}, {5, 9}, {961, 3}, {3, 961}, {most - 1, 1}, {1, most - 1}, {most - 1, most - 1}, {most, most}}
	for _, s := range append(sides(), more...) {
		p := drawn(s[0], s[1], 64)
		for depth := range 7 {
			what := fmt.Sprint(s, ", depth ", depth)
			w, h := padded(s[0], depth), padded(s[1], depth)
			want := made(w, h, func(_ *source, x, y int) int { return p.V[min(y, s[1]-1)*s[0]+min(x, s[0]-1)] })
			got := wave.Pad(p, depth)
			wantPlane(t, what, got, want)
			if !wave.Fits(got, depth) {
				t.Errorf("%s doesn't fit", what)
			}
		}
	}
}

func TestPadOfWhatFitsIsThePlaneAsItIs(t *testing.T) {
	for _, s := range sides() {
		p := edged(s[0], s[1])
		for depth := range deepest(s[0], s[1]) + 1 {
			wantPlane(t, fmt.Sprint(s, ", depth ", depth), wave.Pad(p, depth), p)
		}
	}
}

func TestPadOfWrongPlanes(t *testing.T) {
	for name, p := range wrongPlanes() {
		for _, depth := range append(wrongDepths(), 0, 1, 2, 3, 4, 5, 6) {
			wantNone(t, fmt.Sprint(name, ", depth ", depth), wave.Pad(p, depth))
		}
	}
}

func TestPadOfWrongDepths(t *testing.T) {
	for _, depth := range wrongDepths() {
		for _, s := range [][2]int{{1, 1}, {3, 2}, {64, 64}, {128, 128}, {most, 1}, {1, most}} {
			wantNone(t, fmt.Sprint(s, ", depth ", depth), wave.Pad(drawn(s[0], s[1], 9), depth))
		}
	}
}

// P9.3: back takes back what there did.

// farPlanes by name, of numbers from -2^32 to 2^32: some whose steps go far, some at random.
func farPlanes(w, h int) map[string]api.Plane {
	stripes := func(across, down int) api.Plane {
		return made(w, h, func(_ *source, x, y int) int { return far - 2*far*((x/across+y/down)%2) })
	}
	return map[string]api.Plane{
		"9 bits":       drawn(w, h, 9),
		"within":       made(w, h, func(s *source, _, _ int) int { return int(uint(s.next())%(2*far+1)) - far }),
		"the ends":     picked(w, h, -far, far),
		"at the ends":  picked(w, h, -far, -far+1, -1, 0, 1, far-1, far),
		"greatest":     picked(w, h, far),
		"least":        picked(w, h, -far),
		"chequered":    stripes(1, 1),
		"columns":      stripes(1, most),
		"rows":         stripes(most, 1),
		"wide stripes": stripes(2, 4),
		"one":          made(w, h, func(_ *source, x, y int) int { return far * (1 / (1 + x + y)) }),
	}
}

func TestBackTakesBackWhatThereDid(t *testing.T) {
	for _, s := range fewSides() {
		for name, p := range farPlanes(s[0], s[1]) {
			for _, f := range filters() {
				for depth := range deepest(s[0], s[1]) + 1 {
					what := fmt.Sprint(f, " of ", s, ", ", name, ", depth ", depth)
					wantPlane(t, what, wave.Inverse(f, wave.Forward(f, p, depth), depth), p)
				}
			}
		}
	}
}

func TestBackTakesBackTheGreatestPlane(t *testing.T) {
	p := picked(most, most, -far, far)
	for _, f := range filters() {
		wantPlane(t, fmt.Sprint(f), wave.Inverse(f, wave.Forward(f, p, 6), 6), p)
	}
}

func TestAllSmallPlanesThereAndBack(t *testing.T) {
	some := []int{-far, -3, -1, 0, 1, 2, far}
	for i := range len(some) * len(some) * len(some) * len(some) {
		p := api.Plane{W: 2, H: 2, V: []int{some[i%7], some[i/7%7], some[i/49%7], some[i/343]}}
		for _, f := range filters() {
			wantPlane(t, fmt.Sprint(f, " of ", p.V), wave.Inverse(f, wave.Forward(f, p, 1), 1), p)
		}
	}
}

// What is padded goes there and back, and is cropped to what it was.
func TestPaddedPlanesThereAndBack(t *testing.T) {
	for _, s := range [][2]int{{1, 1}, {3, 2}, {5, 65}, {100, 37}} {
		p := picked(s[0], s[1], -far, far)
		for _, f := range filters() {
			for depth := range 7 {
				q := wave.Inverse(f, wave.Forward(f, wave.Pad(p, depth), depth), depth)
				wantPlane(t, fmt.Sprint(f, " of ", s, ", depth ", depth), plane.Crop(q, s[0], s[1]), p)
			}
		}
	}
}

// Haar doubles nothing: all numbers come back, and go back and there too.
func TestHaarTakesBackAllNumbers(t *testing.T) {
	for _, s := range fewSides() {
		for _, p := range []api.Plane{drawn(s[0], s[1], 64), edged(s[0], s[1])} {
			for depth := range deepest(s[0], s[1]) + 1 {
				what := fmt.Sprint(s, ", depth ", depth)
				wantPlane(t, what, wave.Inverse(api.Haar, wave.Forward(api.Haar, p, depth), depth), p)
				wantPlane(t, what+", the other way", wave.Forward(api.Haar, wave.Inverse(api.Haar, p, depth), depth), p)
			}
		}
	}
}

// Where a doubling goes beyond 64 bits the greatest bit is lost, and no other one.
func TestWhatADoublingLoses(t *testing.T) {
	for _, s := range [][2]int{{2, 2}, {6, 4}, {64, 192}} {
		for _, p := range []api.Plane{drawn(s[0], s[1], 64), edged(s[0], s[1])} {
			want := clone(p)
			for i, v := range p.V {
				want.V[i] = v << 1 >> 1
			}
			for _, f := range []api.Filter{api.Dubuc97, api.LeGall, api.Dubuc137, api.HaarOne} {
				wantPlane(t, fmt.Sprint(f, " of ", s), wave.Inverse(f, wave.Forward(f, p, 1), 1), want)
			}
		}
	}
}

// Memory: what is handed in stays as it is, answers are new.

// makers: each call that answers a plane.
func makers() map[string]func(p api.Plane) api.Plane {
	out := map[string]func(p api.Plane) api.Plane{}
	for _, depth := range []int{0, 1, 2, 6, 7, -1} {
		out[fmt.Sprint("Pad, depth ", depth)] = func(p api.Plane) api.Plane { return wave.Pad(p, depth) }
		for _, f := range append(filters(), 5) {
			what := fmt.Sprint(" ", f, ", depth ", depth)
			out["Forward"+what] = func(p api.Plane) api.Plane { return wave.Forward(f, p, depth) }
			out["Inverse"+what] = func(p api.Plane) api.Plane { return wave.Inverse(f, p, depth) }
		}
	}
	return out
}

// roomy: the plane with spare room behind its numbers, and all of their memory.
func roomy(p api.Plane) (api.Plane, []int) {
	whole := append(slices.Clone(p.V), 901, 902, 903, 904, 905, 906, 907, 908, 909, 910)
	return api.Plane{W: p.W, H: p.H, V: whole[:len(p.V)]}, whole
}

// filled list: each number of its memory, its spare room too.
func filled(l []int, n int) {
	l = l[:cap(l)]
	for i := range l {
		l[i] = n
	}
}

func TestPlanesAreNeitherChangedNorKept(t *testing.T) {
	for name, call := range makers() {
		for _, s := range [][2]int{{1, 1}, {3, 2}, {2, 2}, {4, 4}, {8, 12}, {64, 64}} {
			p, whole := roomy(drawn(s[0], s[1], 40))
			was := slices.Clone(whole)
			got := call(p)
			if !slices.Equal(whole, was) {
				t.Fatalf("%s of %v: what was handed in is changed", name, s)
			}
			want := clone(got)
			filled(whole, -1)
			wantPlane(t, fmt.Sprint(name, " of ", s, ", behind a change"), got, want)
		}
	}
}

func TestAnswersAreNewMemory(t *testing.T) {
	for name, call := range makers() {
		for _, s := range [][2]int{{1, 1}, {3, 2}, {2, 2}, {4, 4}, {8, 12}, {64, 64}} {
			p, whole := roomy(drawn(s[0], s[1], 40))
			was := slices.Clone(whole)
			first, second := call(p), call(p)
			want := clone(second)
			filled(first.V, -1)
			if !slices.Equal(whole, was) {
				t.Fatalf("%s of %v: the answer shares what was handed in", name, s)
			}
			wantPlane(t, fmt.Sprint(name, " of ", s, ", another answer"), second, want)
			wantPlane(t, fmt.Sprint(name, " of ", s, ", asked again"), call(p), want)
		}
	}
}

func TestFitsAndWrongPlanesChangeNothing(t *testing.T) {
	p, whole := roomy(drawn(64, 64, 40))
	was := slices.Clone(whole)
	for depth := range 8 {
		wave.Fits(p, depth)
	}
	if !slices.Equal(whole, was) {
		t.Error("Fits changes the plane")
	}
	calls := makers()
	for name, p := range wrongPlanes() {
		for i := range p.V {
			p.V[i] = i
		}
		was := clone(p)
		for _, call := range calls {
			call(p)
		}
		wantPlane(t, name, p, was)
	}
}

// fuzzPlane of bytes, eight a number; right or not.
func fuzzPlane(w, h int, b []byte) api.Plane {
	p := api.Plane{W: w, H: h}
	for ; len(b) >= 8; b = b[8:] {
		p.V = append(p.V, int(binary.LittleEndian.Uint64(b)))
	}
	return p
}

func FuzzAnyPlanes(f *testing.F) {
	f.Add(3, 2, 2, 1, make([]byte, 32))
	f.Add(0, 4, 2, 1, slices.Repeat([]byte{255, 255, 255, 255, 255, 255, 255, 127}, 8))
	f.Add(2, 4, 4, 2, slices.Repeat([]byte{7, 0, 0, 128}, 32))
	f.Add(5, 2, 2, 7, make([]byte, 31))
	f.Add(-1, 1<<32, 1<<32, -1, []byte{})
	f.Fuzz(func(t *testing.T, kind, w, h, depth int, b []byte) {
		p := fuzzPlane(w, h, b)
		was, filter := clone(p), api.Filter(kind)
		right := w >= 1 && w <= most && h >= 1 && h <= most && len(p.V) == w*h
		deep := depth >= 0 && depth <= 6
		may := right && deep && fits(w, h, depth)
		if wave.Fits(p, depth) != may {
			t.Fatalf("%d by %d, %d numbers fits %d: %v", w, h, len(p.V), depth, !may)
		}
		there, back, pad := wave.Forward(filter, p, depth), wave.Inverse(filter, p, depth), wave.Pad(p, depth)
		if may && kind >= 0 && kind <= 4 {
			wantPlane(t, "Forward", there, forward(filter, p, depth))
			wantPlane(t, "Inverse", back, inverse(filter, p, depth))
		} else {
			wantNone(t, "Forward", there)
			wantNone(t, "Inverse", back)
		}
		if right && deep {
			wantPlane(t, "Pad", pad, plane.Pad(p, padded(w, depth), padded(h, depth)))
		} else {
			wantNone(t, "Pad", pad)
		}
		wantPlane(t, "as it was", p, was)
	})
}
