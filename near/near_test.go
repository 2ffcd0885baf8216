package near_test

import (
	"encoding/binary"
	"fmt"
	"math"
	"slices"
	"testing"

	"shingle/api"
	"shingle/near"
	"shingle/plane"
)

const (
	least    = math.MinInt
	greatest = math.MaxInt
	most     = 1024 // of a side
)

// place of a plane.
type place struct{ x, y int }

// source of numbers for the tests, the same in each run.
type source uint64

func (s *source) next() int {
	*s ^= *s << 13
	*s ^= *s >> 7
	*s ^= *s << 17
	return int(*s)
}

// drawn plane: about half of its numbers are 0, the others of either sign, great and small.
func drawn(w, h int, seed uint64) api.Plane {
	s := source(0x6a09e667f3bcc909 + seed<<40 + uint64(w)<<20 + uint64(h))
	p := api.Plane{W: w, H: h, V: make([]int, w*h)}
	for i := range p.V {
		switch n := s.next(); n & 7 {
		case 0:
			p.V[i] = 1
		case 1:
			p.V[i] = -1
		case 2:
			p.V[i] = n | 1
		case 3:
			p.V[i] = []int{least, greatest, 1 << 32, -1 << 32}[n>>8&3]
		}
	}
	return p
}

// alone: a plane of noughts, but for one place.
func alone(w, h int, at place, v int) api.Plane {
	p := api.Plane{W: w, H: h, V: make([]int, w*h)}
	p.V[at.y*w+at.x] = v
	return p
}

// full plane of one number.
func full(w, h, v int) api.Plane {
	return api.Plane{W: w, H: h, V: slices.Repeat([]int{v}, w*h)}
}

// wrongPlanes by name: no number of theirs is 0.
func wrongPlanes() map[string]api.Plane {
	sides := map[string][3]int{ // W, H, how many numbers
		"numbers without sides": {0, 0, 4},
		"without numbers":       {2, 2, 0},
		"one too few":           {2, 2, 3},
		"one too many":          {2, 2, 5},
		"a row too few":         {4, 4, 12},
		"a row too many":        {4, 4, 20},
		"one too many, 1 by 1":  {1, 1, 2},
		"none wide":             {0, 3, 3},
		"none high":             {3, 0, 3},
		"both below 0":          {-2, -2, 4},
		"one too wide":          {most + 1, 2, 2 * (most + 1)},
		"one too high":          {2, most + 1, 2 * (most + 1)},
		"twice as wide":         {2 * most, 1, 2 * most},
		"most, one too few":     {most, most, most*most - 1},
		"wraps to 0":            {1 << 32, 1 << 32, 0},
		"wraps to 0, 4 high":    {1 << 62, 4, 0},
		"wraps to 8":            {1<<61 + 1, 8, 8},
		"wraps to 8, turned":    {8, 1<<61 + 1, 8},
		"wraps to 1":            {greatest, greatest, 1},
		"least by least":        {least, least, 0},
		"least wide":            {least, 1, 1},
		"greatest high":         {1, greatest, 1},
	}
	out := map[string]api.Plane{"zero": {}, "room alone": {W: 2, H: 2, V: slices.Repeat([]int{7}, 4)[:0]}}
	for name, s := range sides {
		out[name] = api.Plane{W: s[0], H: s[1], V: slices.Repeat([]int{7}, s[2])}
	}
	return out
}

// fewPlanes that are right: the least, rows, columns, squares and others, the greatest sides, and those of one kind of number alone.
func fewPlanes() []api.Plane {
	out := []api.Plane{full(1, 1, 0), full(1, 1, 5), full(1, 1, -5), full(3, 4, 0), full(4, 3, 9), full(3, 3, least), full(2, 5, greatest)}
	for i, s := range [][2]int{{1, 1}, {2, 1}, {1, 2}, {2, 2}, {7, 1}, {1, 7}, {3, 5}, {6, 4}, {9, 8}, {16, 16}, {most, 1}, {1, most}} {
		out = append(out, drawn(s[0], s[1], uint64(i)), drawn(s[0], s[1], uint64(i)+99))
	}
	return out
}

// spots along a side: all of a small one, its ends, and far without.
func spots(count int) []int {
	out := []int{least, least + 1, -1 << 62, -1 << 32, -count - 1, -count, -2, -1, 2*count - 2, 2*count - 1, 2 * count, 2*count + 1, 1 << 31, 1 << 32, 1<<32 + 1, 1 << 62, greatest - 1, greatest}
	for i := range count + 3 {
		if i < 12 || i > count-3 {
			out = append(out, i)
		}
	}
	return out
}

// numbers of a plane that aren't 0, by their places: all others count as 0. Of a plane that isn't right there are none.
func numbers(p api.Plane) map[place]int {
	out := map[place]int{}
	if p.W < 1 || p.W > most || p.H < 1 || p.H > most || len(p.V) != p.W*p.H {
		return out
	}
	for i, v := range p.V {
		if v != 0 {
			out[place{i % p.W, i / p.W}] = v
		}
	}
	return out
}

// beside a place, by the chapter's words.
func beside(q map[place]int, x, y int) bool {
	return q[place{x - 1, y}] != 0 || q[place{x, y - 1}] != 0 || q[place{x - 1, y - 1}] != 0
}

// parent of a place, by the chapter's words: what is left of a half is taken off ahead.
func parent(p map[place]int, x, y int) bool {
	if x < 0 || y < 0 {
		return false
	}
	return p[place{(x - x%2) / 2, (y - y%2) / 2}] != 0
}

// sign that is foretold, by the chapter's words.
func sign(q map[place]int, orient, x, y int) int {
	v := 0
	if orient == 1 {
		v = q[place{x, y - 1}]
	}
	if orient == 2 {
		v = q[place{x - 1, y}]
	}
	if v > 0 {
		return 1
	}
	if v < 0 {
		return -1
	}
	return 0
}

func orients() []int {
	return []int{0, 1, 2, 3, 4, 5, -1, -2, -3, 1<<32 + 1, 1<<32 + 2, least, least + 1, greatest}
}

func wantSet(t *testing.T, what string, got api.Set, follow []int, data, sign int) {
	t.Helper()
	if !slices.Equal(got.Follow, follow) || got.Data != data || got.Sign != sign {
		t.Fatalf("%s: %v, not %v, %d, %d", what, got, follow, data, sign)
	}
}

func wantBeside(t *testing.T, q api.Plane, x, y int, want bool) {
	t.Helper()
	if got := near.Beside(q, x, y); got != want {
		t.Fatalf("%d by %d: Beside %d, %d is %v", q.W, q.H, x, y, got)
	}
}

func wantParent(t *testing.T, p api.Plane, x, y int, want bool) {
	t.Helper()
	if got := near.Parent(p, x, y); got != want {
		t.Fatalf("%d by %d: Parent of %d, %d is %v", p.W, p.H, x, y, got)
	}
}

func wantSign(t *testing.T, q api.Plane, orient, x, y, want int) {
	t.Helper()
	if got := near.Sign(q, orient, x, y); got != want {
		t.Fatalf("%d by %d, orient %d: Sign of %d, %d is %d, not %d", q.W, q.H, orient, x, y, got, want)
	}
}

// P13.1: the contexts.

func TestSet(t *testing.T) {
	for _, c := range []struct {
		parent, beside bool
		follow         []int
	}{
		{false, false, []int{0, 2, 3, 4, 5, 6}},
		{false, true, []int{1, 2, 3, 4, 5, 6}},
		{true, false, []int{7, 9, 10, 11, 12, 13}},
		{true, true, []int{8, 9, 10, 11, 12, 13}},
	} {
		for sign, want := range map[int]int{0: 14, 1: 15, 2: 15, 3: 15, 77: 15, 1 << 31: 15, 1 << 32: 15, 1 << 62: 15, greatest - 1: 15, greatest: 15,
			-1: 16, -2: 16, -3: 16, -77: 16, -1 << 31: 16, -1 << 32: 16, -1 << 62: 16, least + 1: 16, least: 16} {
			wantSet(t, fmt.Sprint(c.parent, c.beside, sign), near.Set(c.parent, c.beside, sign), c.follow, 17, want)
		}
	}
}

func TestShift(t *testing.T) {
	wantSet(t, "Shift", near.Shift(), []int{19}, 20, 21)
}

// All contexts are those of a band's coder, CtxSkip aside.
func TestContextsAreABandsOwn(t *testing.T) {
	seen := map[int]int{}
	for _, s := range []api.Set{near.Set(false, false, 0), near.Set(false, true, 1), near.Set(true, false, -1), near.Set(true, true, 0), near.Shift()} {
		for _, c := range append(slices.Clone(s.Follow), s.Data, s.Sign) {
			seen[c]++
		}
	}
	for c := range 22 {
		if (seen[c] == 0) != (c == 18) {
			t.Errorf("context %d: %d times", c, seen[c])
		}
	}
	if len(seen) != 21 || api.BandCtx != 22 || api.CtxSkip != 18 {
		t.Errorf("%d contexts of %d", len(seen), api.BandCtx)
	}
}

// spoiled: a set whose Follow is changed, the spare room too.
func spoiled(s api.Set) {
	for i := range s.Follow[:cap(s.Follow)] {
		s.Follow[:cap(s.Follow)][i] = -9
	}
}

func TestSetsAreNewMemory(t *testing.T) {
	q, p := full(2, 2, 3), full(1, 1, 3)
	for range 3 {
		held := near.Set(true, true, 1)
		quiet := near.Set(false, false, 0)
		shift := near.Shift()
		for _, b := range []bool{false, true} {
			for _, c := range []bool{false, true} {
				spoiled(near.Set(b, c, 1))
			}
		}
		spoiled(near.Shift())
		spoiled(near.Of(q, p, 1, 1, 1))
		spoiled(near.Of(q, api.Plane{}, 0, 0, 0))
		wantSet(t, "held ahead", held, []int{8, 9, 10, 11, 12, 13}, 17, 15)
		wantSet(t, "quiet, held ahead", quiet, []int{0, 2, 3, 4, 5, 6}, 17, 14)
		wantSet(t, "Shift, held ahead", shift, []int{19}, 20, 21)
		wantSet(t, "both", near.Set(true, true, 0), []int{8, 9, 10, 11, 12, 13}, 17, 14)
		wantSet(t, "parent", near.Set(true, false, -1), []int{7, 9, 10, 11, 12, 13}, 17, 16)
		wantSet(t, "beside", near.Set(false, true, 0), []int{1, 2, 3, 4, 5, 6}, 17, 14)
		wantSet(t, "neither", near.Set(false, false, 0), []int{0, 2, 3, 4, 5, 6}, 17, 14)
		wantSet(t, "Shift", near.Shift(), []int{19}, 20, 21)
		wantSet(t, "Of", near.Of(q, p, 1, 1, 1), []int{8, 9, 10, 11, 12, 13}, 17, 15)
	}
}

// P13.2: is one beside a place that isn't 0?

// Of all places up to two off, just three count.
func TestBesideEachPlaceAlone(t *testing.T) {
	for _, v := range []int{1, -1, 7, -7, 1 << 32, -1 << 32, 1 << 62, least, greatest} {
		for y := range 5 {
			for x := range 5 {
				at := place{x, y}
				want := at == place{1, 2} || at == place{2, 1} || at == place{1, 1}
				wantBeside(t, alone(5, 5, at, v), 2, 2, want)
			}
		}
	}
}

func TestBesideAllOrNone(t *testing.T) {
	wantBeside(t, full(3, 3, 1), 1, 1, true)
	wantBeside(t, full(3, 3, -1), 2, 2, true)
	wantBeside(t, full(3, 3, 0), 1, 1, false)
	wantBeside(t, api.Plane{W: 2, H: 2, V: []int{0, 0, 0, 9}}, 1, 1, false)
	wantBeside(t, api.Plane{W: 2, H: 2, V: []int{5, -5, 0, 0}}, 1, 1, true)
	wantBeside(t, api.Plane{W: 2, H: 2, V: []int{1, 1, -2, 9}}, 1, 1, true)
	wantBeside(t, api.Plane{W: 2, H: 2, V: []int{0, 1, -1, 0}}, 1, 1, true)
}

// In the first row and column there is nothing above or ahead, the ends of other rows neither.
func TestBesideAtTheEdges(t *testing.T) {
	q := full(4, 3, 6)
	wantBeside(t, q, 0, 0, false)
	wantBeside(t, q, 1, 0, true)
	wantBeside(t, q, 0, 1, true)
	wantBeside(t, alone(4, 3, place{3, 0}, 6), 0, 1, false)
	wantBeside(t, alone(4, 3, place{3, 0}, 6), 0, 2, false)
	wantBeside(t, alone(4, 3, place{3, 1}, 6), 0, 2, false)
	wantBeside(t, alone(4, 3, place{0, 2}, 6), 2, 0, false)
	wantBeside(t, alone(4, 3, place{1, 2}, 6), 2, 0, false)
	wantBeside(t, alone(4, 3, place{3, 2}, 6), 0, 0, false)
	wantBeside(t, alone(4, 3, place{2, 0}, 6), 3, 0, true)
	wantBeside(t, alone(4, 3, place{0, 1}, 6), 0, 2, true)
	wantBeside(t, alone(4, 3, place{1, 0}, 6), 0, 0, false)
	wantBeside(t, alone(4, 3, place{0, 0}, 6), 0, 0, false)
	wantBeside(t, alone(4, 3, place{2, 2}, 6), 3, 2, true)
	wantBeside(t, alone(4, 3, place{3, 1}, 6), 3, 2, true)
	wantBeside(t, alone(4, 3, place{2, 1}, 6), 3, 2, true)
	wantBeside(t, alone(4, 3, place{3, 2}, 6), 3, 2, false)
	wantBeside(t, full(1, 1, 6), 0, 0, false)
}

func TestBesidePlacesWithout(t *testing.T) {
	q := full(3, 2, -4)
	for at, want := range map[place]bool{
		{3, 0}: true, {3, 1}: true, {3, 2}: true, {0, 2}: true, {1, 2}: true, {2, 2}: true, // those that there are
		{3, 3}: false, {4, 0}: false, {4, 1}: false, {4, 2}: false, {0, 3}: false, {2, 3}: false,
		{-1, 0}: false, {-1, 1}: false, {-1, 2}: false, {0, -1}: false, {2, -1}: false, {3, -1}: false, {-1, -1}: false, {-2, 1}: false, {1, -2}: false,
		{least, 0}: false, {least, least}: false, {0, least}: false, {greatest, 0}: false, {greatest, greatest}: false, {1, greatest}: false,
		{least, 1}: false, {1, least}: false, {greatest, 1}: false, {least, greatest}: false, {greatest, least}: false,
		{1 << 32, 0}: false, {1<<32 + 1, 0}: false, {1, 1 << 32}: false, {1<<62 + 1, 1}: false, {-1 << 32, 1}: false,
	} {
		wantBeside(t, q, at.x, at.y, want)
	}
	wantBeside(t, alone(3, 2, place{2, 0}, 1), 3, 0, true)
	wantBeside(t, alone(3, 2, place{2, 0}, 1), 3, 1, true)
	wantBeside(t, alone(3, 2, place{2, 0}, 1), 3, 2, false)
	wantBeside(t, alone(3, 2, place{2, 1}, 1), 3, 0, false)
	wantBeside(t, alone(3, 2, place{2, 1}, 1), 3, 2, true)
	wantBeside(t, alone(3, 2, place{2, 1}, 1), 2, 2, true)
	wantBeside(t, alone(3, 2, place{0, 1}, 1), 3, 0, false)
	wantBeside(t, alone(3, 2, place{0, 1}, 1), 0, 2, true)
	wantBeside(t, alone(3, 2, place{0, 1}, 1), 1, 2, true)
	wantBeside(t, alone(3, 2, place{0, 1}, 1), 2, 2, false)
}

// P13.2: the parent.

func TestParentThatWasWorkedOut(t *testing.T) {
	p := api.Plane{W: 3, H: 2, V: []int{0, 5, 0, -1, 0, 2}}
	for y, row := range [][]bool{
		{false, false, true, true, false, false, false, false},
		{false, false, true, true, false, false, false, false},
		{true, true, false, false, true, true, false, false},
		{true, true, false, false, true, true, false, false},
		{false, false, false, false, false, false, false, false},
		{false, false, false, false, false, false, false, false},
	} {
		for x, want := range row {
			wantParent(t, p, x, y, want)
		}
	}
}

// Each number is the parent of just four places.
func TestParentOfFour(t *testing.T) {
	for _, v := range []int{1, -1, 1 << 32, least, greatest} {
		for _, at := range []place{{0, 0}, {3, 0}, {0, 2}, {3, 2}, {1, 1}} {
			p := alone(4, 3, at, v)
			for y := -2; y < 9; y++ {
				for x := -2; x < 11; x++ {
					want := (x == 2*at.x || x == 2*at.x+1) && (y == 2*at.y || y == 2*at.y+1)
					wantParent(t, p, x, y, want)
				}
			}
		}
	}
}

func TestParentOfTheLastPlace(t *testing.T) {
	for _, s := range []place{{1, 1}, {3, 2}, {512, 1}, {1, 512}, {most, 2}} {
		p := alone(s.x, s.y, place{s.x - 1, s.y - 1}, -3)
		w, h := 2*s.x, 2*s.y
		wantParent(t, p, w-1, h-1, true)
		wantParent(t, p, w-2, h-2, true)
		wantParent(t, p, w-3, h-1, false)
		wantParent(t, p, w-1, h-3, false)
		wantParent(t, p, w, h-1, false)
		wantParent(t, p, w-1, h, false)
		wantParent(t, p, w, h, false)
	}
}

func TestParentOfPlacesWithout(t *testing.T) {
	p := full(3, 2, 8)
	for _, x := range []int{-1, -2, -3, -6, 6, 7, 8, 12, 1 << 32, 1<<32 + 1, 1 << 62, greatest - 1, greatest, -1 << 32, least, least + 1} {
		for _, y := range []int{0, 1, 3, 4, -1, least, greatest} {
			wantParent(t, p, x, y, false)
		}
	}
	for _, y := range []int{-1, -2, -3, -4, 4, 5, 6, 8, 1 << 32, 1<<32 + 1, 1 << 62, greatest - 1, greatest, -1 << 32, least, least + 1} {
		for _, x := range []int{0, 1, 5, 6, -1, least, greatest} {
			wantParent(t, p, x, y, false)
		}
	}
	wantParent(t, full(1, 1, 8), 1, 1, true)
	wantParent(t, full(1, 1, 8), -1, 0, false)
	wantParent(t, full(1, 1, 8), 0, -1, false)
	wantParent(t, full(1, 1, 8), -1, -1, false)
}

// P13.2: the sign.

func TestSignOfEachOrient(t *testing.T) {
	values := map[int]int{0: 0, 1: 1, 2: 1, 99: 1, 1 << 32: 1, 1 << 62: 1, greatest: 1, -1: -1, -2: -1, -99: -1, -1 << 32: -1, -1 << 62: -1, least: -1, least + 1: -1}
	for above, up := range values {
		for ahead, back := range values {
			for _, others := range []int{-5, 0, 5} {
				q := api.Plane{W: 3, H: 3, V: []int{others, above, others, ahead, others, others, others, others, others}}
				for orient, want := range map[int]int{1: up, 2: back, 0: 0, 3: 0, 4: 0, 5: 0, -1: 0, -2: 0, 1<<32 + 1: 0, 1<<32 + 2: 0, least: 0, least + 1: 0, greatest: 0} {
					wantSign(t, q, orient, 1, 1, want)
				}
			}
		}
	}
}

func TestSignAtTheEdges(t *testing.T) {
	q := api.Plane{W: 3, H: 2, V: []int{4, -4, 4, -4, 4, -4}}
	for y, row := range [][3][2]int{ // of orient 1, of orient 2
		{{0, 0}, {0, 1}, {0, -1}},
		{{1, 0}, {-1, -1}, {1, 1}},
	} {
		for x, want := range row {
			wantSign(t, q, 1, x, y, want[0])
			wantSign(t, q, 2, x, y, want[1])
			wantSign(t, q, 0, x, y, 0)
			wantSign(t, q, 3, x, y, 0)
		}
	}
}

func TestSignOfPlacesWithout(t *testing.T) {
	q := api.Plane{W: 3, H: 2, V: []int{4, 4, 4, -4, 4, -4}}
	for at, want := range map[place][2]int{ // of orient 1, of orient 2
		{0, 2}: {-1, 0}, {1, 2}: {1, 0}, {2, 2}: {-1, 0}, {3, 0}: {0, 1}, {3, 1}: {0, -1}, // those that there are
		{3, 2}: {0, 0}, {0, 3}: {0, 0}, {2, 3}: {0, 0}, {4, 0}: {0, 0}, {4, 1}: {0, 0}, {-1, 1}: {0, 0}, {-1, 0}: {0, 0}, {-1, 2}: {0, 0},
		{1, -1}: {0, 0}, {3, -1}: {0, 0}, {-1, -1}: {0, 0}, {least, 0}: {0, 0}, {least, 1}: {0, 0}, {0, least}: {0, 0}, {1, least}: {0, 0},
		{least, least}: {0, 0}, {greatest, 0}: {0, 0}, {1, greatest}: {0, 0}, {greatest, greatest}: {0, 0}, {1 << 32, 1}: {0, 0}, {1, 1 << 32}: {0, 0},
	} {
		wantSign(t, q, 1, at.x, at.y, want[0])
		wantSign(t, q, 2, at.x, at.y, want[1])
		wantSign(t, q, 0, at.x, at.y, 0)
		wantSign(t, q, 3, at.x, at.y, 0)
		wantSign(t, q, 4, at.x, at.y, 0)
		wantSign(t, q, -1, at.x, at.y, 0)
	}
}

// P13.2: planes that aren't right, and room behind the numbers of those that are.

func TestWrongPlanesAreOfNoughts(t *testing.T) {
	for name, q := range wrongPlanes() {
		t.Run(name, func(t *testing.T) {
			for _, x := range []int{0, 1, 2, 3, 4, 5, most, most + 1, -1, -2, least, least + 1, greatest} {
				for _, y := range []int{0, 1, 2, 3, 4, 5, most, most + 1, -1, -2, least, least + 1, greatest} {
					wantBeside(t, q, x, y, false)
					wantParent(t, q, x, y, false)
					wantSign(t, q, 1, x, y, 0)
					wantSign(t, q, 2, x, y, 0)
					wantSet(t, "Of", near.Of(q, q, 1, x, y), []int{0, 2, 3, 4, 5, 6}, 17, 14)
				}
			}
			wantSet(t, "Of, the parent alone wrong", near.Of(full(3, 3, 1), q, 1, 1, 1), []int{1, 2, 3, 4, 5, 6}, 17, 15)
			wantSet(t, "Of, the band alone wrong", near.Of(q, full(3, 3, 1), 2, 1, 1), []int{7, 9, 10, 11, 12, 13}, 17, 14)
		})
	}
}

func TestRoomBehindTheNumbersCountsForNothing(t *testing.T) {
	q := api.Plane{W: 2, H: 2, V: slices.Concat(make([]int, 4), slices.Repeat([]int{7}, 8))[:4]}
	for y := range 7 {
		for x := range 7 {
			wantBeside(t, q, x, y, false)
			wantParent(t, q, x, y, false)
			wantSign(t, q, 1, x, y, 0)
			wantSign(t, q, 2, x, y, 0)
		}
	}
}

// P13.2: all three, and the set of them.

func TestOfThatWasWorkedOut(t *testing.T) {
	q := api.Plane{W: 4, H: 3, V: []int{0, 0, -3, 0, 0, 0, 0, 2, 0, 0, 0, 0}}
	p := api.Plane{W: 2, H: 2, V: []int{0, -9, 4, 0}}
	quiet, loud := []int{2, 3, 4, 5, 6}, []int{9, 10, 11, 12, 13}
	for _, c := range []struct {
		orient, x, y, first, sign int
	}{
		{0, 0, 0, 0, 14}, {0, 2, 0, 7, 14}, {0, 3, 0, 8, 14}, {2, 3, 0, 8, 16}, {1, 3, 0, 8, 14},
		{1, 2, 1, 8, 16}, {2, 2, 1, 8, 14}, {3, 2, 1, 8, 14}, {1, 1, 1, 0, 14}, {0, 3, 1, 8, 14}, {1, 3, 1, 8, 14},
		{1, 0, 2, 7, 14}, {2, 1, 2, 7, 14}, {1, 2, 2, 0, 14}, {1, 3, 2, 1, 15}, {2, 3, 2, 1, 14}, {0, 3, 2, 1, 14},
		{2, 4, 1, 1, 15}, {1, 4, 1, 1, 14}, {2, 4, 2, 1, 14}, {1, 0, 3, 7, 14}, {1, 2, 3, 0, 14}, {2, -1, -1, 0, 14}, {1, -1, 1, 0, 14},
	} {
		follow := append([]int{c.first}, quiet...)
		if c.first >= 7 {
			follow = append([]int{c.first}, loud...)
		}
		wantSet(t, fmt.Sprint(c), near.Of(q, p, c.orient, c.x, c.y), follow, 17, c.sign)
	}
}

func TestAllByTheChaptersWords(t *testing.T) {
	for _, q := range fewPlanes() {
		in := numbers(q)
		for _, y := range spots(q.H) {
			for _, x := range spots(q.W) {
				wantBeside(t, q, x, y, beside(in, x, y))
				wantParent(t, q, x, y, parent(in, x, y))
				for _, orient := range orients() {
					wantSign(t, q, orient, x, y, sign(in, orient, x, y))
				}
			}
		}
	}
}

func TestOfIsTheSetOfAllThree(t *testing.T) {
	parents := []api.Plane{{}, full(1, 1, 1), full(3, 3, 0), drawn(3, 5, 1), drawn(8, 8, 2), drawn(most, 1, 3), {W: 2, H: 2, V: []int{1, 1, 1}}}
	for _, q := range append(fewPlanes(), api.Plane{}, api.Plane{W: 3, H: 2, V: []int{1, 1, 1, 1, 1}}) {
		for _, p := range parents {
			in, above := numbers(q), numbers(p)
			for _, y := range spots(min(q.H, 7)) {
				for _, x := range spots(min(q.W, 7)) {
					for _, orient := range orients() {
						got := near.Of(q, p, orient, x, y)
						want := near.Set(parent(above, x, y), beside(in, x, y), sign(in, orient, x, y))
						wantSet(t, fmt.Sprint(orient, " at ", x, ", ", y), got, want.Follow, want.Data, want.Sign)
					}
				}
			}
		}
	}
}

// What is coded later can't count: at its place the decoder doesn't know it yet.
func TestNumbersThereAndBehindDoNotCount(t *testing.T) {
	for i, s := range []place{{1, 1}, {4, 1}, {1, 4}, {3, 3}, {6, 5}} {
		q, p := drawn(s.x, s.y, uint64(i)), drawn((s.x+1)/2, (s.y+1)/2, 77)
		for x, y := range plane.Points(q) {
			for orient := range 4 {
				want := near.Of(q, p, orient, x, y)
				for _, v := range []int{0, 1, -1, least, greatest} {
					changed := api.Plane{W: q.W, H: q.H, V: slices.Clone(q.V)}
					for j := y*q.W + x; j < len(changed.V); j++ {
						changed.V[j] = v
					}
					got := near.Of(changed, p, orient, x, y)
					wantSet(t, fmt.Sprint(s, ", ", orient, " at ", x, ", ", y, ", ", v), got, want.Follow, want.Data, want.Sign)
				}
			}
		}
	}
}

// Nothing that is handed in is changed, and nothing of it kept.
func TestPlanesStayAsTheyAre(t *testing.T) {
	room := drawn(6, 6, 5).V
	held := slices.Clone(room)
	q, p := api.Plane{W: 5, H: 4, V: room[:20]}, api.Plane{W: 3, H: 2, V: room[20:26]}
	for x, y := range plane.Points(q) {
		near.Beside(q, x, y)
		near.Parent(p, x, y)
		near.Sign(q, 1, x, y)
		spoiled(near.Of(q, p, 2, x, y))
	}
	if !slices.Equal(room, held) {
		t.Errorf("%v, not %v", room, held)
	}
	one := full(2, 2, 1)
	wantBeside(t, one, 1, 1, true)
	clear(one.V)
	wantBeside(t, one, 1, 1, false)
	wantParent(t, one, 1, 1, false)
	one.V[1] = -1
	wantSign(t, one, 1, 1, 1, -1)
	wantSign(t, one, 2, 1, 1, 0)
}

// read: a plane of any bytes, right if they are enough.
func read(w, h int, b []byte) api.Plane {
	p := api.Plane{W: w, H: h}
	for len(b) >= 2 {
		p.V = append(p.V, int(int16(binary.LittleEndian.Uint16(b)))<<24)
		b = b[2:]
	}
	return p
}

func FuzzAnyPlaces(f *testing.F) {
	f.Add(2, 2, 1, 1, []byte{1, 0, 2, 0, 0, 255, 0, 0}, 1, 1, 1)
	f.Add(1, 1, 1, 4, []byte{0, 0, 1, 128}, 2, 1, -1)
	f.Add(greatest, greatest, least, least, []byte{1, 0}, least, greatest, 0)
	f.Add(0, 3, 1025, 1, []byte{}, greatest, least, 3)
	f.Fuzz(func(t *testing.T, w, h, pw, ph int, b []byte, x, y, orient int) {
		q := read(w, h, b)
		p := read(pw, ph, b)
		in, above := numbers(q), numbers(p)
		wantBeside(t, q, x, y, beside(in, x, y))
		wantParent(t, p, x, y, parent(above, x, y))
		wantSign(t, q, orient, x, y, sign(in, orient, x, y))
		want := near.Set(parent(above, x, y), beside(in, x, y), sign(in, orient, x, y))
		wantSet(t, "Of", near.Of(q, p, orient, x, y), want.Follow, want.Data, want.Sign)
	})
}
