package bands_test

import (
	"encoding/binary"
	"fmt"
	"math"
	"slices"
	"testing"

	"shingle/api"
	"shingle/bands"
	"shingle/plane"
	"shingle/wave"
)

const (
	least    = math.MinInt
	greatest = math.MaxInt
	most     = 1024 // of a side
)

// wrongDepths that there aren't.
func wrongDepths() []int {
	return []int{-1, -2, -6, -7, -63, -64, -65, 7, 8, 9, 10, 31, 32, 62, 63, 64, 65, 1 << 32, 1<<32 + 1, -1 << 32, greatest - 1, greatest, least, least + 1}
}

// wrongSides that no plane has.
func wrongSides() []int {
	return []int{0, -1, -2, -4, -64, -1024, most + 1, most + 2, most + 64, 2 * most, 1 << 32, -1 << 32, 1 << 62, -1 << 62, greatest - 63, greatest - 1, greatest, least, least + 1, least + 64}
}

// fewSides of planes: the least, those that fit no depth but 0, some depths, by one side alone, and all of them.
func fewSides() [][2]int {
	return [][2]int{{1, 1}, {7, 1}, {1, 8}, {3, 2}, {2, 2}, {4, 2}, {2, 4}, {4, 4}, {6, 4}, {4, 10}, {8, 3}, {8, 24}, {48, 16}, {32, 64}, {64, 32},
		{64, 64}, {128, 64}, {64, 192}, {96, 64}, {66, 64}, {64, 65}, {most, 1}, {1, most}, {most, 2}, {most, 64}, {64, most}}
}

// wrongPlanes by name: in most of them a band would lie, were they right.
func wrongPlanes() map[string]api.Plane {
	out := map[string]api.Plane{
		"zero":                  {},
		"numbers without sides": {V: []int{1, 2, 3, 4}},
		"nil":                   {W: 2, H: 2},
		"room alone":            {W: 2, H: 2, V: make([]int, 0, 4)},
		"one too few":           {W: 2, H: 2, V: []int{1, 2, 3}},
		"one too many":          {W: 2, H: 2, V: []int{1, 2, 3, 4, 5}},
		"none, 1 by 1":          {W: 1, H: 1},
		"a row too few":         {W: 64, H: 64, V: make([]int, 64*63)},
		"a row too many":        {W: 64, H: 64, V: make([]int, 64*65)},
		"both below 0":          {W: -2, H: -2, V: []int{1, 2, 3, 4}},
		"one too wide":          {W: most + 1, H: 1, V: make([]int, most+1)},
		"one too high":          {W: 1, H: most + 1, V: make([]int, most+1)},
		"twice as wide":         {W: 2 * most, H: 2, V: make([]int, 2*most*2)},
		"most, one too few":     {W: most, H: most, V: make([]int, most*most-1)},
		"wraps to 0":            {W: 1 << 32, H: 1 << 32},
		"wraps to 0, 4 high":    {W: 1 << 62, H: 4},
		"wraps to 8":            {W: 1<<61 + 1, H: 8, V: make([]int, 8)},
		"wraps to 1":            {W: greatest, H: greatest, V: []int{1}},
		"least by least":        {W: least, H: least},
	}
	for _, n := range []int{0, -1, -64, most + 1, least, greatest} {
		for _, count := range []int{0, 1, 64} {
			out[fmt.Sprint(n, " wide, ", count)] = api.Plane{W: n, H: 64, V: make([]int, count)}
			out[fmt.Sprint(n, " high, ", count)] = api.Plane{W: 1, H: n, V: make([]int, count)}
		}
	}
	return out
}

// counted plane: each number tells its place, and is told apart from those of another first one.
func counted(w, h, first int) api.Plane {
	p := api.Plane{W: w, H: h, V: make([]int, w*h)}
	for i := range p.V {
		p.V[i] = first + i
	}
	return p
}

// clone of a plane, right or not: the numbers are its own.
func clone(p api.Plane) api.Plane {
	return api.Plane{W: p.W, H: p.H, V: slices.Clone(p.V)}
}

func band(level, orient, x, y, w, h int) api.Band {
	return api.Band{Level: level, Orient: orient, X: x, Y: y, W: w, H: h}
}

// place alone: a band that is of no transform.
func place(x, y, w, h int) api.Band {
	return api.Band{X: x, Y: y, W: w, H: h}
}

func wantPlane(t *testing.T, what string, got, want api.Plane) {
	t.Helper()
	if got.W != want.W || got.H != want.H || len(got.V) != len(want.V) {
		t.Fatalf("%s: %d by %d, %d numbers, not %d by %d, %d numbers", what, got.W, got.H, len(got.V), want.W, want.H, len(want.V))
	}
	for i, v := range want.V {
		if got.V[i] != v {
			t.Fatalf("%s: %d, not %d, as number %d", what, got.V[i], v, i)
		}
	}
}

func wantNone(t *testing.T, what string, got api.Plane) {
	t.Helper()
	if got.W != 0 || got.H != 0 || len(got.V) != 0 {
		t.Fatalf("%s: %d by %d, %d numbers", what, got.W, got.H, len(got.V))
	}
}

// wantBands of All, number by number, and of List.
func wantBands(t *testing.T, w, h, depth int, want []api.Band) {
	t.Helper()
	what := fmt.Sprint(w, " by ", h, ", depth ", depth)
	if l := bands.List(w, h, depth); !slices.Equal(l, want) {
		t.Fatalf("%s: List is %v, not %v", what, l, want)
	}
	told := 0
	for i, b := range bands.All(w, h, depth) {
		if i != told || i >= len(want) || b != want[i] {
			t.Fatalf("%s: All tells %d, %v as the one behind %d", what, i, b, told)
		}
		told++
	}
	if told != len(want) {
		t.Fatalf("%s: All tells %d, not %d", what, told, len(want))
	}
}

// fits by layer 9's words: may both sides be halved so often?
func fits(w, h, depth int) bool {
	for range depth {
		if w%2 != 0 || h%2 != 0 {
			return false
		}
		w, h = w/2, h/2
	}
	return true
}

// power of 2.
func power(n int) int {
	p := 1
	for range n {
		p *= 2
	}
	return p
}

// listed by the chapter's words.
func listed(w, h, depth int) []api.Band {
	l := []api.Band{band(0, 0, 0, 0, w/power(depth), h/power(depth))}
	for level := 1; level <= depth; level++ {
		bw, bh := w/power(depth-level+1), h/power(depth-level+1)
		l = append(l, band(level, 1, bw, 0, bw, bh), band(level, 2, 0, bh, bw, bh), band(level, 3, bw, bh, bw, bh))
	}
	return l
}

// P10.1: the bands, how many there are, and their parents.

func TestTheExample(t *testing.T) {
	wantBands(t, 4, 2, 1, []api.Band{band(0, 0, 0, 0, 2, 1), band(1, 1, 2, 0, 2, 1), band(1, 2, 0, 1, 2, 1), band(1, 3, 2, 1, 2, 1)})
}

func TestDepthNoughtIsOneBand(t *testing.T) {
	for _, s := range fewSides() {
		wantBands(t, s[0], s[1], 0, []api.Band{band(0, 0, 0, 0, s[0], s[1])})
	}
}

func TestBandsThatWereWorkedOut(t *testing.T) {
	wantBands(t, 24, 40, 3, []api.Band{
		band(0, 0, 0, 0, 3, 5),
		band(1, 1, 3, 0, 3, 5), band(1, 2, 0, 5, 3, 5), band(1, 3, 3, 5, 3, 5),
		band(2, 1, 6, 0, 6, 10), band(2, 2, 0, 10, 6, 10), band(2, 3, 6, 10, 6, 10),
		band(3, 1, 12, 0, 12, 20), band(3, 2, 0, 20, 12, 20), band(3, 3, 12, 20, 12, 20),
	})
	wantBands(t, 192, 64, 6, []api.Band{
		band(0, 0, 0, 0, 3, 1),
		band(1, 1, 3, 0, 3, 1), band(1, 2, 0, 1, 3, 1), band(1, 3, 3, 1, 3, 1),
		band(2, 1, 6, 0, 6, 2), band(2, 2, 0, 2, 6, 2), band(2, 3, 6, 2, 6, 2),
		band(3, 1, 12, 0, 12, 4), band(3, 2, 0, 4, 12, 4), band(3, 3, 12, 4, 12, 4),
		band(4, 1, 24, 0, 24, 8), band(4, 2, 0, 8, 24, 8), band(4, 3, 24, 8, 24, 8),
		band(5, 1, 48, 0, 48, 16), band(5, 2, 0, 16, 48, 16), band(5, 3, 48, 16, 48, 16),
		band(6, 1, 96, 0, 96, 32), band(6, 2, 0, 32, 96, 32), band(6, 3, 96, 32, 96, 32),
	})
}

// Sides that fit a depth both, one alone, or none; the greatest ones, too.
func TestBandsByTheChaptersWords(t *testing.T) {
	sides := []int{1, 2, 3, 4, 6, 8, 12, 16, 17, 24, 32, 40, 48, 63, 64, 65, 80, 96, 128, 160, 192, 960, 992, 1000, 1008, 1020, 1022, 1023, most}
	for _, w := range sides {
		for _, h := range sides {
			for depth := range 7 {
				var want []api.Band
				if fits(w, h, depth) {
					want = listed(w, h, depth)
				}
				wantBands(t, w, h, depth, want)
			}
		}
	}
}

// There are bands just where a plane fits.
func TestBandsWhereAPlaneFits(t *testing.T) {
	for _, s := range fewSides() {
		for _, depth := range append(wrongDepths(), 0, 1, 2, 3, 4, 5, 6) {
			if got := len(bands.List(s[0], s[1], depth)) > 0; got != wave.Fits(plane.New(s[0], s[1]), depth) {
				t.Errorf("%v, depth %d: %v", s, depth, got)
			}
		}
	}
}

func TestNoBandsOfWrongDepths(t *testing.T) {
	for _, depth := range wrongDepths() {
		for _, s := range [][2]int{{1, 1}, {64, 64}, {128, 128}, {256, most}, {most, most}, {0, 0}, {least, greatest}} {
			wantBands(t, s[0], s[1], depth, nil)
		}
	}
}

func TestNoBandsOfWrongSides(t *testing.T) {
	for _, n := range wrongSides() {
		for _, depth := range append(wrongDepths(), 0, 1, 2, 3, 4, 5, 6) {
			wantBands(t, n, 64, depth, nil)
			wantBands(t, 64, n, depth, nil)
			wantBands(t, n, n, depth, nil)
			wantBands(t, n, most, depth, nil)
		}
	}
}

// A loop that is left is told nothing more; the next one over the same iterator begins anew.
func TestAllEndsWhenItIsToldTo(t *testing.T) {
	for _, s := range [][2]int{{64, 128}, {most, most}} {
		for depth := range 7 {
			want := listed(s[0], s[1], depth)
			all := bands.All(s[0], s[1], depth)
			for end := range want {
				var got []api.Band
				for i, b := range all {
					if got = append(got, b); i == end {
						break
					}
				}
				if !slices.Equal(got, want[:end+1]) {
					t.Fatalf("%v, depth %d, ended at %d: %v", s, depth, end, got)
				}
			}
		}
	}
}

func TestAllAsksNoMoreBehindAFalse(t *testing.T) {
	for end := range 19 {
		asked := 0
		bands.All(64, 64, 6)(func(i int, _ api.Band) bool {
			asked++
			return i < end
		})
		if asked != end+1 {
			t.Errorf("ended at %d: asked %d times", end, asked)
		}
	}
}

// Two loops over one iterator, one in the other, don't know of each other.
func TestLoopsOfAllAreApart(t *testing.T) {
	all, want := bands.All(8, 8, 2), listed(8, 8, 2)
	for i, b := range all {
		if b != want[i] {
			t.Fatalf("outer %d: %v", i, b)
		}
		told := 0
		for j, c := range all {
			if j != told || c != want[j] {
				t.Fatalf("inner %d of %d: %v", j, i, c)
			}
			told++
		}
		if told != len(want) {
			t.Fatalf("inner of %d: %d", i, told)
		}
	}
}

func TestCountOfEachDepth(t *testing.T) {
	for depth, want := range []int{1, 4, 7, 10, 13, 16, 19} {
		if got := bands.Count(depth); got != want || got != len(bands.List(most, most, depth)) {
			t.Errorf("depth %d: %d, not %d", depth, got, want)
		}
	}
	for _, depth := range wrongDepths() {
		if got := bands.Count(depth); got != 0 {
			t.Errorf("depth %d: %d", depth, got)
		}
	}
}

func TestParentThatWereWorkedOut(t *testing.T) {
	for i, want := range []int{-1, -1, -1, -1, 1, 2, 3, 4, 5, 6, 7, 8, 9, 10, 11, 12, 13, 14, 15} {
		if got := bands.Parent(i); got != want {
			t.Errorf("%d: %d, not %d", i, got, want)
		}
	}
}

func TestNoParentOfWhatIsNoBand(t *testing.T) {
	for _, i := range []int{-1, -2, -3, -4, -18, -1 << 32, least, least + 1, least + 2, least + 3, 19, 20, 21, 22, 23, 64, 1 << 32, greatest - 1, greatest} {
		if got := bands.Parent(i); got != -1 {
			t.Errorf("%d: %d", i, got)
		}
	}
}

// Of each depth: one level less, the same orient.
func TestParentByTheChaptersWords(t *testing.T) {
	for depth := range 7 {
		l := bands.List(64, 64, depth)
		for i, b := range l {
			want := slices.IndexFunc(l, func(c api.Band) bool { return c.Level == b.Level-1 && c.Orient == b.Orient })
			if got := bands.Parent(i); got != want {
				t.Errorf("depth %d, %d: %d, not %d", depth, i, got, want)
			}
		}
	}
}

// P10.2: a band's numbers, cut out and laid in.

func TestCutThatWasWorkedOut(t *testing.T) {
	p := api.Plane{W: 4, H: 2, V: []int{1, 2, 3, 4, 5, 6, least, greatest}}
	for i, want := range [][]int{{1, 2}, {3, 4}, {5, 6}, {least, greatest}} {
		b := bands.List(4, 2, 1)[i]
		wantPlane(t, fmt.Sprint(b), bands.Cut(p, b), api.Plane{W: 2, H: 1, V: want})
	}
	wantPlane(t, "the midst", bands.Cut(counted(5, 4, 0), place(1, 1, 3, 2)), api.Plane{W: 3, H: 2, V: []int{6, 7, 8, 11, 12, 13}})
}

func TestLayThatWasWorkedOut(t *testing.T) {
	p := counted(5, 4, 0)
	if !bands.Lay(p, place(2, 1, 2, 3), api.Plane{W: 2, H: 3, V: []int{least, 71, 72, 73, 74, greatest}}) {
		t.Error("false")
	}
	want := []int{
		0, 1, 2, 3, 4,
		5, 6, least, 71, 9,
		10, 11, 72, 73, 14,
		15, 16, 74, greatest, 19,
	}
	wantPlane(t, "Lay", p, api.Plane{W: 5, H: 4, V: want})
}

// inside by the chapter's words, of numbers whose sums don't go beyond 64 bits.
func inside(p api.Plane, b api.Band) bool {
	return b.W >= 1 && b.H >= 1 && b.X >= 0 && b.Y >= 0 && b.X+b.W <= p.W && b.Y+b.H <= p.H
}

// cut by the chapter's words, number by number.
func cut(p api.Plane, b api.Band) api.Plane {
	q := api.Plane{W: b.W, H: b.H}
	for y := b.Y; y < b.Y+b.H; y++ {
		for x := b.X; x < b.X+b.W; x++ {
			q.V = append(q.V, p.V[y*p.W+x])
		}
	}
	return q
}

// laid by the chapter's words, number by number, on a copy.
func laid(p api.Plane, b api.Band, q api.Plane) api.Plane {
	r := clone(p)
	for i, v := range q.V {
		r.V[(b.Y+i/b.W)*p.W+b.X+i%b.W] = v
	}
	return r
}

// wantCutAndLay of a band that lies within: Lay changes nothing outside of it.
func wantCutAndLay(t *testing.T, what string, p api.Plane, b api.Band) {
	t.Helper()
	was, q := clone(p), counted(b.W, b.H, 1<<40)
	wantPlane(t, what+": Cut", bands.Cut(p, b), cut(was, b))
	if !bands.Lay(p, b, q) {
		t.Fatalf("%s: Lay is false", what)
	}
	wantPlane(t, what+": Lay", p, laid(was, b, q))
	wantPlane(t, what+": Cut of what was laid", bands.Cut(p, b), q)
	if !bands.Lay(p, b, cut(was, b)) {
		t.Fatalf("%s: Lay again is false", what)
	}
	wantPlane(t, what+": as it was", p, was)
}

// wantNeither of a band that doesn't lie within, whatever is laid.
func wantNeither(t *testing.T, what string, p api.Plane, b api.Band) {
	t.Helper()
	was := clone(p)
	wantNone(t, what+": Cut", bands.Cut(p, b))
	lays := []api.Plane{{}, counted(1, 1, 500), clone(p), {W: b.W, H: b.H}, {W: b.W, H: b.H, V: counted(1, 1, 500).V}}
	if b.W >= 1 && b.H >= 1 && b.W <= most && b.H <= most {
		lays = append(lays, counted(b.W, b.H, 500))
	}
	if area := b.W * b.H; area > 1 && area <= most*most { // numbers as many as sides below 0, or too great ones, seem to ask for
		lays = append(lays, api.Plane{W: b.W, H: b.H, V: counted(area, 1, 500).V})
	}
	for _, q := range lays {
		of := clone(q)
		if bands.Lay(p, b, q) {
			t.Fatalf("%s: Lay of %d by %d is true", what, q.W, q.H)
		}
		wantPlane(t, what+": left as it is", p, was)
		wantPlane(t, what+": what was to be laid", q, of)
	}
}

// All places and sides in and around small planes: within, at each border, and beyond it.
func TestAllBandsOfSmallPlanes(t *testing.T) {
	for _, s := range [][2]int{{1, 1}, {1, 3}, {4, 1}, {3, 4}, {5, 3}} {
		p := counted(s[0], s[1], 7)
		for x := -2; x <= s[0]+1; x++ {
			for y := -2; y <= s[1]+1; y++ {
				for w := -2; w <= s[0]+2; w++ {
					for h := -2; h <= s[1]+2; h++ {
						b := place(x, y, w, h)
						if what := fmt.Sprint(b, " of ", s); inside(p, b) {
							wantCutAndLay(t, what, p, b)
						} else {
							wantNeither(t, what, p, b)
						}
					}
				}
			}
		}
	}
}

// Bands that touch each border of greater planes, and go beyond it by 1.
func TestBandsAtTheBordersOfGreaterPlanes(t *testing.T) {
	for _, s := range [][2]int{{64, 48}, {most, 2}, {2, most}, {most, most}} {
		p, w, h := counted(s[0], s[1], 7), s[0], s[1]
		for name, b := range map[string]api.Band{"whole": place(0, 0, w, h), "left": place(0, 0, 1, h), "right": place(w-1, 0, 1, h), "top": place(0, 0, w, 1),
			"bottom": place(0, h-1, w, 1), "last": place(w-1, h-1, 1, 1), "behind the first": place(1, 1, w-1, h-1), "ahead of the last": place(0, 0, w-1, h-1)} {
			wantCutAndLay(t, fmt.Sprint(name, " of ", s), p, b)
		}
		for name, b := range map[string]api.Band{"left": place(-1, 0, 2, h), "right": place(w-1, 0, 2, h), "top": place(0, -1, w, 2), "bottom": place(0, h-1, w, 2),
			"wide": place(0, 0, w+1, h), "high": place(0, 0, w, h+1), "moved across": place(1, 0, w, h), "moved down": place(0, 1, w, h),
			"beside": place(w, 0, 1, 1), "below": place(0, h, 1, 1), "no width": place(0, 0, 0, h), "no height": place(0, 0, w, 0), "none at the end": place(w, h, 0, 0)} {
			wantNeither(t, fmt.Sprint("beyond: ", name, " of ", s), p, b)
		}
	}
}

// Places and sides whose sums go beyond 64 bits, to numbers that would lie within.
func TestBandsOfGreatNumbers(t *testing.T) {
	great := []int{greatest, greatest - 1, greatest - 7, 1<<62 - 1, 1 << 62, 1 << 32, 2049, -2049, -1 << 32, -1 << 62, -1<<62 - 1, least + 7, least + 1, least}
	for _, s := range [][2]int{{1, 1}, {8, 4}, {most, 2}} {
		p := counted(s[0], s[1], 7)
		for _, a := range great {
			for _, b := range []int{a, -a, 1 - a, 0, 1, 2, 1 << 62, greatest, least} {
				what := fmt.Sprint(a, ", ", b, " of ", s)
				wantNeither(t, "across "+what, p, place(a, 0, b, 1))
				wantNeither(t, "down "+what, p, place(0, a, 1, b))
				wantNeither(t, "both "+what, p, place(a, a, b, b))
				wantNeither(t, "sides across "+what, p, place(b, 0, a, 1))
				wantNeither(t, "sides down "+what, p, place(0, b, 1, a))
				wantNeither(t, "sides "+what, p, place(0, 0, a, b))
			}
		}
	}
}

// Places that would lie within, were the plane one long row.
func TestBandsDoNotGoOnInTheNextRow(t *testing.T) {
	p := counted(8, 4, 7)
	for _, b := range []api.Band{place(7, 0, 2, 1), place(8, 0, 1, 1), place(8, 1, 8, 1), place(-1, 1, 1, 1), place(-8, 1, 8, 1), place(16, -1, 8, 1), place(0, 0, 16, 1)} {
		wantNeither(t, fmt.Sprint(b), p, b)
	}
}

// A band's level and orient don't count for where it lies.
func TestLevelAndOrientDoNotCount(t *testing.T) {
	p := counted(8, 4, 7)
	for _, level := range []int{0, 1, 2, 7, -1, least, greatest} {
		for _, orient := range []int{0, 1, 3, 4, -1, least, greatest} {
			b := band(level, orient, 3, 1, 4, 2)
			wantCutAndLay(t, fmt.Sprint(b), p, b)
		}
	}
}

func TestWrongPlanes(t *testing.T) {
	for name, p := range wrongPlanes() {
		for i := range p.V {
			p.V[i] = i + 7
		}
		for _, b := range []api.Band{{}, place(0, 0, 1, 1), place(0, 0, 2, 1), place(1, 1, 1, 1), place(0, 0, p.W, p.H), place(-1, -1, 1, 1), place(0, 0, -1, -1), place(0, 0, greatest, greatest)} {
			wantNeither(t, fmt.Sprint(b, " of ", name), p, b)
		}
	}
}

// wantNotLaid: Lay is false, and nothing changes.
func wantNotLaid(t *testing.T, what string, p api.Plane, b api.Band, q api.Plane) {
	t.Helper()
	was, of := clone(p), clone(q)
	if bands.Lay(p, b, q) {
		t.Fatalf("%s is laid", what)
	}
	wantPlane(t, what+": left as it is", p, was)
	wantPlane(t, what+": what was to be laid", q, of)
}

func TestLayOfWrongPlanes(t *testing.T) {
	p := counted(most, most, 7)
	for name, q := range wrongPlanes() {
		for _, b := range []api.Band{{}, place(0, 0, 1, 1), place(0, 0, 2, 2), place(3, 5, 64, 64), place(0, 0, most, most), place(0, 0, q.W, q.H)} {
			wantNotLaid(t, fmt.Sprint(name, " at ", b), p, b, q)
		}
	}
}

func TestLayOfOtherSides(t *testing.T) {
	p := counted(8, 8, 7)
	for _, s := range [][2]int{{3, 4}, {5, 4}, {4, 3}, {4, 5}, {2, 4}, {4, 2}, {8, 2}, {2, 8}, {16, 1}, {1, 16}, {8, 8}, {1, 1}, {most, most}} {
		wantNotLaid(t, fmt.Sprint(s), p, place(2, 3, 4, 4), counted(s[0], s[1], 500))
	}
	wantNotLaid(t, "turned", p, place(2, 3, 4, 2), counted(2, 4, 500))
}

// Room behind the numbers doesn't count, and is left as it is.
func TestRoomIsLeftAsItIs(t *testing.T) {
	whole := counted(20, 1, 7).V
	of := counted(20, 1, 500).V
	p, q := api.Plane{W: 4, H: 3, V: whole[:12]}, api.Plane{W: 2, H: 2, V: of[:4]}
	want := laid(counted(4, 3, 7), place(2, 1, 2, 2), counted(2, 2, 500))
	if !bands.Lay(p, place(2, 1, 2, 2), q) {
		t.Error("false")
	}
	wantPlane(t, "Lay", p, want)
	if !slices.Equal(whole[12:], counted(8, 1, 19).V) || !slices.Equal(of, counted(20, 1, 500).V) {
		t.Errorf("room is changed: %v, %v", whole, of)
	}
	wantNeither(t, "in the room", p, place(2, 2, 2, 2))
	wantNotLaid(t, "of the room", p, place(0, 0, 2, 3), api.Plane{W: 2, H: 3, V: of[:4]})
}

// What is laid may share the plane's numbers: it is laid as it was handed in.
func TestLayOfAPlanesOwnNumbers(t *testing.T) {
	for _, b := range []api.Band{place(0, 0, 4, 4), place(4, 4, 4, 4), place(1, 0, 4, 4), place(0, 1, 4, 4), place(4, 0, 4, 4), place(2, 0, 2, 8), place(0, 1, 8, 2)} {
		for first := range 64 - b.W*b.H + 1 {
			p := counted(8, 8, 7)
			q := api.Plane{W: b.W, H: b.H, V: p.V[first : first+b.W*b.H]}
			want := laid(p, b, clone(q))
			if !bands.Lay(p, b, q) {
				t.Fatalf("%v of %d: false", b, first)
			}
			wantPlane(t, fmt.Sprint(b, " of ", first), p, want)
		}
	}
}

// What is laid isn't kept: the plane has copies.
func TestWhatIsLaidIsNotKept(t *testing.T) {
	p, q := counted(8, 4, 7), counted(4, 2, 500)
	bands.Lay(p, place(4, 2, 4, 2), q)
	was, of := clone(p), clone(q)
	for i := range q.V {
		q.V[i] = -1
	}
	wantPlane(t, "behind a change of what was laid", p, was)
	q = clone(of)
	bands.Lay(p, place(4, 2, 4, 2), q)
	for i := range p.V {
		p.V[i] = -2
	}
	wantPlane(t, "behind a change of the plane", q, of)
}

func TestCutIsNewMemory(t *testing.T) {
	for _, b := range []api.Band{place(0, 0, 8, 4), place(0, 0, 1, 1), place(4, 2, 4, 2), place(0, 1, 8, 1), place(9, 0, 1, 1)} {
		whole := counted(40, 1, 7).V
		p := api.Plane{W: 8, H: 4, V: whole[:32]}
		first, second := bands.Cut(p, b), bands.Cut(p, b)
		if !slices.Equal(whole, counted(40, 1, 7).V) {
			t.Fatalf("%v: the plane is changed", b)
		}
		want := clone(second)
		for i := range first.V[:cap(first.V)] {
			first.V[:cap(first.V)][i] = -1
		}
		if !slices.Equal(whole, counted(40, 1, 7).V) {
			t.Fatalf("%v: the answer shares the plane's numbers", b)
		}
		for i := range whole {
			whole[i] = -2
		}
		wantPlane(t, fmt.Sprint(b, ": another answer"), second, want)
	}
}

func TestListIsNewMemory(t *testing.T) {
	want := listed(64, 64, 6)
	first, second := bands.List(64, 64, 6), bands.List(64, 64, 6)
	for i := range first[:cap(first)] {
		first[:cap(first)][i] = band(9, 9, 9, 9, 9, 9)
	}
	if !slices.Equal(second, want) || !slices.Equal(bands.List(64, 64, 6), want) {
		t.Error("lists share memory")
	}
}

// P10.3: the bands cover the plane, each place once.

func TestBandsCoverThePlane(t *testing.T) {
	for _, s := range append(fewSides(), [2]int{most, most}) {
		for depth := range 7 {
			if !fits(s[0], s[1], depth) {
				continue
			}
			times := make([]int, s[0]*s[1])
			for _, b := range bands.All(s[0], s[1], depth) {
				for y := b.Y; y < b.Y+b.H; y++ {
					for x := b.X; x < b.X+b.W; x++ {
						if x < 0 || x >= s[0] || y < 0 || y >= s[1] {
							t.Fatalf("%v, depth %d: %v goes beyond", s, depth, b)
						}
						times[y*s[0]+x]++
					}
				}
			}
			if i := slices.IndexFunc(times, func(n int) bool { return n != 1 }); i >= 0 {
				t.Fatalf("%v, depth %d: %d times at %d, %d", s, depth, times[i], i%s[0], i/s[0])
			}
		}
	}
}

func TestAPlaneIsMadeOfItsBands(t *testing.T) {
	for _, s := range append(fewSides(), [2]int{most, most}) {
		p := counted(s[0], s[1], 7)
		for depth := range 7 {
			if !fits(s[0], s[1], depth) {
				continue
			}
			q := plane.New(s[0], s[1])
			for i, b := range bands.All(s[0], s[1], depth) {
				if !bands.Lay(q, b, bands.Cut(p, b)) {
					t.Fatalf("%v, depth %d: %d isn't laid", s, depth, i)
				}
			}
			wantPlane(t, fmt.Sprint(s, ", depth ", depth), q, p)
		}
	}
}

// The bands lie where layer 9 puts what is low and high: what changes across alone is in bands of orient 1,
// what changes down alone in those of orient 2, what changes both ways in those of orient 3, of one level.
func TestBandsLieWhereATransformPutsThem(t *testing.T) {
	for depth := 1; depth <= 6; depth++ {
		for level := 1; level <= depth; level++ {
			wide := power(depth - level)
			for orient := 1; orient <= 3; orient++ {
				p := plane.New(64, 128)
				for i := range p.V {
					x, y := i%64/wide%2, i/64/wide%2
					p.V[i] = 100 * ((x*(orient&1) + y*(orient>>1)) % 2)
				}
				r := wave.Forward(api.Haar, p, depth)
				for i, b := range bands.List(64, 128, depth)[1:] {
					loud := slices.ContainsFunc(bands.Cut(r, b).V, func(v int) bool { return v != 0 })
					if want := b.Level == level && b.Orient == orient; loud != want {
						t.Errorf("depth %d, level %d, orient %d: band %d, %v: %v", depth, level, orient, i+1, b, loud)
					}
				}
			}
		}
	}
}

// The band of level 0 is what a transform of as many levels leaves of an even plane.
func TestLevelNoughtOfATransform(t *testing.T) {
	for depth := range 7 {
		p := plane.Clip(plane.New(64, 64), 5, 5)
		r := wave.Forward(api.Haar, p, depth)
		got := bands.Cut(r, bands.List(64, 64, depth)[0])
		wantPlane(t, fmt.Sprint("depth ", depth), got, plane.Crop(p, 64/power(depth), 64/power(depth)))
	}
}

// fuzzPlane of bytes, eight a number; right or not.
func fuzzPlane(w, h int, b []byte) api.Plane {
	p := api.Plane{W: w, H: h}
	for ; len(b) >= 8; b = b[8:] {
		p.V = append(p.V, int(binary.LittleEndian.Uint64(b)))
	}
	return p
}

func FuzzAnyBands(f *testing.F) {
	f.Add(4, 2, 1, 2, 1, 2, 1, make([]byte, 64))
	f.Add(1, 1, 0, 0, 0, 1, 1, make([]byte, 8))
	f.Add(2, 2, 1, 1<<62, 0, 1<<62, 1, make([]byte, 32))
	f.Add(1<<32, 1<<32, -1, 0, 0, 0, 0, []byte{})
	f.Fuzz(func(t *testing.T, w, h, depth, x, y, bw, bh int, b []byte) {
		p, at := fuzzPlane(w, h, b), place(x, y, bw, bh)
		right := w >= 1 && w <= most && h >= 1 && h <= most
		var want []api.Band
		if right && depth >= 0 && depth <= 6 && fits(w, h, depth) {
			want = listed(w, h, depth)
		}
		wantBands(t, w, h, depth, want)
		bands.Parent(x)
		near := slices.Max([]int{x, y, bw, bh}) <= most // beyond it a band can't lie within, and sums may be too great
		if right && len(p.V) == w*h && near && inside(p, at) {
			wantCutAndLay(t, fmt.Sprint(at), p, at)
		} else {
			wantNeither(t, fmt.Sprint(at), p, at)
		}
	})
}
