package split_test

import (
	"fmt"
	"math"
	"slices"
	"testing"

	"shingle/api"
	"shingle/split"
)

const (
	least    = math.MinInt
	greatest = math.MaxInt
	most     = 1024 // of a side
	mostHave = 64   // parts, across or down
)

// band and how it is split: w by h, into m across and n down.
type band struct{ w, h, m, n int }

// at: a place.
type at struct{ x, y int }

func rect(x, y, w, h int) api.Rect {
	return api.Rect{X: x, Y: y, W: w, H: h}
}

// wrongNumbers that are neither sides nor counts.
func wrongNumbers() []int {
	return []int{0, -1, -2, -63, -64, -65, -1023, -1024, -1025, -1 << 32, 1 - 1<<32, -1 << 62, least, least + 1, least + 2, least + 64, least + 1024,
		1025, 1026, 1088, 2048, 65536, 1 << 31, 1 << 32, 1<<32 + 1, 1 << 53, 1 << 58, 1 << 62, 1<<62 + 1, greatest - 64, greatest - 2, greatest - 1, greatest}
}

// wrongSides that no band has.
func wrongSides() []int {
	return wrongNumbers()
}

// wrongCounts of parts: some of them may be sides.
func wrongCounts() []int {
	return append(wrongNumbers(), 65, 66, 127, 128, 1023, 1024)
}

// fewBands that are right: the least, fewer places than parts, sides that aren't multiples, and the greatest.
func fewBands() []band {
	return []band{{1, 1, 1, 1}, {1, 1, 2, 1}, {1, 1, 1, 2}, {1, 1, 3, 1}, {1, 1, 64, 64}, {2, 3, 5, 7}, {3, 2, 7, 1}, {1, 5, 2, 64}, {5, 1, 64, 2}, {63, 62, 64, 64},
		{3, 1, 2, 1}, {1, 3, 1, 2}, {5, 3, 2, 2}, {10, 7, 3, 4}, {7, 10, 4, 3}, {8, 8, 4, 2}, {9, 8, 1, 8}, {64, 64, 64, 64}, {65, 66, 64, 64}, {100, 127, 7, 63},
		{most, 1, 64, 64}, {1, most, 64, 64}, {most, 3, 63, 2}, {3, most, 2, 63}, {most, most, 1, 1}, {most - 1, most, 64, 63}, {most, most, 64, 64}}
}

// wrongBands: those that are right, with one number of wrong ones, or all.
func wrongBands() []band {
	var out []band
	for _, s := range wrongSides() {
		out = append(out, band{s, 4, 2, 2}, band{4, s, 2, 2}, band{s, s, 1, 1}, band{s, most, 64, 64}, band{most, s, 64, 64}, band{s, 1, 1, 1}, band{1, s, 1, 1})
	}
	for _, c := range wrongCounts() {
		out = append(out, band{4, 4, c, 2}, band{4, 4, 2, c}, band{4, 4, c, c}, band{most, most, c, 64}, band{most, most, 64, c}, band{1, 1, c, 1}, band{1, 1, 1, c})
	}
	for _, n := range wrongNumbers() {
		out = append(out, band{n, n, n, n})
	}
	return out
}

// whole quotient of numbers that aren't below 0, counted: what is left is dropped.
func whole(a, b int) int {
	n := 0
	for a >= b {
		a -= b
		n++
	}
	return n
}

// borders of so many parts of a side, by the chapter's words: where each begins, and where the last one ends.
func borders(side, count int) []int {
	var out []int
	for i := range count + 1 {
		out = append(out, whole(side*i, count))
	}
	return out
}

// between borders: the parts, row by row.
func between(across, down []int) []api.Rect {
	var out []api.Rect
	for j := range len(down) - 1 {
		for i := range len(across) - 1 {
			out = append(out, rect(across[i], down[j], across[i+1]-across[i], down[j+1]-down[j]))
		}
	}
	return out
}

// listed by the chapter's words.
func listed(b band) []api.Rect {
	return between(borders(b.w, b.m), borders(b.h, b.n))
}

// placesOf a part, by the chapter's words.
func placesOf(r api.Rect) []at {
	var out []at
	for i := range r.W * r.H {
		out = append(out, at{r.X + i%r.W, r.Y + i/r.W})
	}
	return out
}

// told by Points, no more than a part may have.
func told(t *testing.T, r api.Rect) []at {
	t.Helper()
	var out []at
	for x, y := range split.Points(r) {
		if out = append(out, at{x, y}); len(out) > most*most {
			t.Fatalf("%v: more places than any part has", r)
		}
	}
	return out
}

// wantRight of a band, and what hangs on it where it is wrong.
func wantRight(t *testing.T, b band, want bool) {
	t.Helper()
	if got := split.Right(b.w, b.h, b.m, b.n); got != want {
		t.Errorf("%v: %v", b, got)
	}
	if !want {
		wantParts(t, b, nil)
		wantNone(t, b)
	}
}

// wantParts of All, number by number, and of List.
func wantParts(t *testing.T, b band, want []api.Rect) {
	t.Helper()
	if l := split.List(b.w, b.h, b.m, b.n); !slices.Equal(l, want) {
		t.Fatalf("%v: List is %v, not %v", b, l, want)
	}
	count := 0
	for i, r := range split.All(b.w, b.h, b.m, b.n) {
		if i != count || i >= len(want) || r != want[i] {
			t.Fatalf("%v: All tells %d, %v as the one behind %d", b, i, r, count)
		}
		count++
	}
	if count != len(want) {
		t.Fatalf("%v: All tells %d, not %d", b, count, len(want))
	}
}

// wantNone of the places that lie in most bands, or at an end.
func wantNone(t *testing.T, b band) {
	t.Helper()
	for _, p := range []at{{0, 0}, {1, 0}, {0, 1}, {3, 3}, {-1, -1}, {b.w, b.h}, {b.w - 1, b.h - 1}, {least, least}, {greatest, greatest}} {
		wantOf(t, b, p.x, p.y, -1)
	}
}

func wantOf(t *testing.T, b band, x, y, want int) {
	t.Helper()
	if got := split.Of(b.w, b.h, b.m, b.n, x, y); got != want {
		t.Fatalf("%v: Of %d, %d is %d, not %d", b, x, y, got, want)
	}
}

func wantPoints(t *testing.T, r api.Rect, want []at) {
	t.Helper()
	if got := told(t, r); !slices.Equal(got, want) {
		t.Fatalf("%v: %d places, not %d, or others: %v ..", r, len(got), len(want), got[:min(len(got), 8)])
	}
}

func TestLimits(t *testing.T) {
	if api.MostPlane != most || api.MostParts != mostHave {
		t.Errorf("%d, %d", api.MostPlane, api.MostParts)
	}
}

// P12.1: which bands may be split so, and their parts.

func TestRightAtTheEdges(t *testing.T) {
	for _, s := range []int{1, 2, 63, 64, 65, 1023, 1024} {
		for _, c := range []int{1, 2, 3, 63, 64} {
			for _, b := range []band{{s, 1, c, 1}, {1, s, 1, c}, {s, s, c, c}, {s, 1, 1, c}, {1, s, c, 1}, {s, most, 64, c}, {most, s, c, 64}} {
				wantRight(t, b, true)
			}
		}
	}
}

func TestNotRight(t *testing.T) {
	for _, b := range wrongBands() {
		wantRight(t, b, false)
	}
}

func TestPartsThatWereWorkedOut(t *testing.T) {
	wantParts(t, band{3, 1, 2, 1}, []api.Rect{rect(0, 0, 1, 1), rect(1, 0, 2, 1)})
	wantParts(t, band{1, 1, 1, 1}, []api.Rect{rect(0, 0, 1, 1)})
	wantParts(t, band{1, 1, 1, 4}, []api.Rect{rect(0, 0, 1, 0), rect(0, 0, 1, 0), rect(0, 0, 1, 0), rect(0, 0, 1, 1)})
	wantParts(t, band{1, 1, 2, 2}, []api.Rect{rect(0, 0, 0, 0), rect(0, 0, 1, 0), rect(0, 0, 0, 1), rect(0, 0, 1, 1)})
	wantParts(t, band{2, 1, 5, 1}, []api.Rect{rect(0, 0, 0, 1), rect(0, 0, 0, 1), rect(0, 0, 1, 1), rect(1, 0, 0, 1), rect(1, 0, 1, 1)})
	wantParts(t, band{most, most, 2, 2}, []api.Rect{rect(0, 0, 512, 512), rect(512, 0, 512, 512), rect(0, 512, 512, 512), rect(512, 512, 512, 512)})
	wantParts(t, band{10, 7, 3, 4}, []api.Rect{
		rect(0, 0, 3, 1), rect(3, 0, 3, 1), rect(6, 0, 4, 1),
		rect(0, 1, 3, 2), rect(3, 1, 3, 2), rect(6, 1, 4, 2),
		rect(0, 3, 3, 2), rect(3, 3, 3, 2), rect(6, 3, 4, 2),
		rect(0, 5, 3, 2), rect(3, 5, 3, 2), rect(6, 5, 4, 2),
	})
}

// The borders were reckoned by a separate script after the chapter's words.
func TestBordersThatWereWorkedOut(t *testing.T) {
	thousand := []int{0, 15, 31, 46, 62, 78, 93, 109, 125, 140, 156, 171, 187, 203, 218, 234, 250, 265, 281, 296, 312, 328, 343, 359, 375, 390, 406, 421, 437, 453, 468, 484, 500,
		515, 531, 546, 562, 578, 593, 609, 625, 640, 656, 671, 687, 703, 718, 734, 750, 765, 781, 796, 812, 828, 843, 859, 875, 890, 906, 921, 937, 953, 968, 984, 1000}
	greatestSide := []int{0, 16, 32, 48, 65, 81, 97, 113, 130, 146, 162, 178, 195, 211, 227, 243, 260, 276, 292, 308, 325, 341, 357, 373, 390, 406, 422, 438, 455, 471, 487, 503, 520,
		536, 552, 568, 585, 601, 617, 633, 650, 666, 682, 698, 715, 731, 747, 763, 780, 796, 812, 828, 845, 861, 877, 893, 910, 926, 942, 958, 975, 991, 1007, 1024}
	seven := []int{0, 14, 28, 42, 57, 71, 85, 100}
	few := []int{0, 0, 0, 1, 1, 2, 2, 3}
	wantParts(t, band{1000, most, 64, 63}, between(thousand, greatestSide))
	wantParts(t, band{most, 1000, 63, 64}, between(greatestSide, thousand))
	wantParts(t, band{100, 3, 7, 7}, between(seven, few))
	wantParts(t, band{3, 100, 7, 7}, between(few, seven))
}

func TestPartsByTheChaptersWords(t *testing.T) {
	for _, b := range fewBands() {
		wantParts(t, b, listed(b))
	}
}

// Each count of each side, across and down.
func TestEachCountOfEachSide(t *testing.T) {
	for side := 1; side <= most; side++ {
		for count := 1; count <= mostHave; count++ {
			if side > 130 && side < most-5 && (side+count)%17 != 0 {
				continue
			}
			all := borders(side, count)
			wantParts(t, band{side, 3, count, 1}, between(all, []int{0, 3}))
			wantParts(t, band{3, side, 1, count}, between([]int{0, 3}, all))
		}
	}
}

// A loop that is left is told nothing more; the next one over the same iterator begins anew.
func TestAllEndsWhenItIsToldTo(t *testing.T) {
	for _, b := range fewBands() {
		want := listed(b)
		all := split.All(b.w, b.h, b.m, b.n)
		for _, end := range []int{0, b.m - 1, min(b.m, len(want)-1), len(want) / 2, max(len(want)-2, 0), len(want) - 1} {
			var got []api.Rect
			for i, r := range all {
				if got = append(got, r); i == end {
					break
				}
			}
			if !slices.Equal(got, want[:end+1]) {
				t.Fatalf("%v, ended at %d: %v", b, end, got)
			}
		}
	}
}

func TestAllAsksNoMoreBehindAFalse(t *testing.T) {
	for _, b := range []band{{1, 1, 1, 1}, {5, 3, 4, 5}, {2, 2, 3, 4}, {most, most, 64, 64}} {
		for end := range b.m * b.n {
			asked := 0
			split.All(b.w, b.h, b.m, b.n)(func(i int, _ api.Rect) bool {
				asked++
				return i < end
			})
			if asked != end+1 {
				t.Fatalf("%v, ended at %d: asked %d times", b, end, asked)
			}
		}
	}
}

// Two loops over one iterator, one in the other, don't know of each other.
func TestLoopsOfAllAreApart(t *testing.T) {
	b := band{5, 3, 2, 4}
	all, want := split.All(b.w, b.h, b.m, b.n), listed(b)
	outer := 0
	for i, r := range all {
		if i != outer || r != want[i] {
			t.Fatalf("outer %d: %v", i, r)
		}
		inner := 0
		for j, s := range all {
			if j != inner || s != want[j] {
				t.Fatalf("inner %d of %d: %v", j, i, s)
			}
			inner++
		}
		if inner != len(want) {
			t.Fatalf("inner of %d: %d", i, inner)
		}
		outer++
	}
	if outer != len(want) {
		t.Fatalf("outer: %d", outer)
	}
}

func TestListIsNewMemory(t *testing.T) {
	b := band{10, 7, 3, 4}
	want := listed(b)
	first, second := split.List(b.w, b.h, b.m, b.n), split.List(b.w, b.h, b.m, b.n)
	for i := range first[:cap(first)] {
		first[:cap(first)][i] = rect(-1, -2, -3, -4)
	}
	if !slices.Equal(second, want) {
		t.Errorf("another answer: %v", second)
	}
	wantParts(t, b, want)
}

// P12.1: the places of a part.

func TestPointsThatWereWorkedOut(t *testing.T) {
	wantPoints(t, rect(4, 5, 2, 2), []at{{4, 5}, {5, 5}, {4, 6}, {5, 6}})
	wantPoints(t, rect(0, 0, 1, 1), []at{{0, 0}})
	wantPoints(t, rect(0, 0, 3, 1), []at{{0, 0}, {1, 0}, {2, 0}})
	wantPoints(t, rect(0, 0, 1, 3), []at{{0, 0}, {0, 1}, {0, 2}})
	wantPoints(t, rect(-2, -1, 3, 2), []at{{-2, -1}, {-1, -1}, {0, -1}, {-2, 0}, {-1, 0}, {0, 0}})
	wantPoints(t, rect(1000, -1000, 1, 2), []at{{1000, -1000}, {1000, -999}})
	wantPoints(t, rect(1024, 2000, 1, 1), []at{{1024, 2000}})
}

// Of a part that ends at an end of the numbers each place is told.
func TestPointsAtTheEndsOfNumbers(t *testing.T) {
	wantPoints(t, rect(greatest, greatest, 1, 1), []at{{greatest, greatest}})
	wantPoints(t, rect(least, least, 1, 1), []at{{least, least}})
	wantPoints(t, rect(greatest-1, greatest-1, 2, 2), []at{{greatest - 1, greatest - 1}, {greatest, greatest - 1}, {greatest - 1, greatest}, {greatest, greatest}})
	wantPoints(t, rect(least, least, 2, 2), []at{{least, least}, {least + 1, least}, {least, least + 1}, {least + 1, least + 1}})
	wantPoints(t, rect(least, greatest-1, 1, 2), []at{{least, greatest - 1}, {least, greatest}})
	for _, r := range []api.Rect{rect(greatest-1023, 7, most, 1), rect(7, greatest-1023, 1, most), rect(least, 7, most, 1), rect(7, least, 1, most)} {
		wantPoints(t, r, placesOf(r))
	}
}

// Of sums that go beyond 64 bits, what doesn't fit is lost.
func TestPointsBeyondTheEndsOfNumbers(t *testing.T) {
	wantPoints(t, rect(greatest, 3, 2, 1), []at{{greatest, 3}, {least, 3}})
	wantPoints(t, rect(3, greatest, 1, 2), []at{{3, greatest}, {3, least}})
	wantPoints(t, rect(greatest-1, greatest, 3, 2), []at{{greatest - 1, greatest}, {greatest, greatest}, {least, greatest}, {greatest - 1, least}, {greatest, least}, {least, least}})
}

func TestPointsOfEachPart(t *testing.T) {
	for _, b := range fewBands() {
		for _, r := range split.List(b.w, b.h, b.m, b.n) {
			wantPoints(t, r, placesOf(r))
		}
	}
}

func TestNoPointsOfEmptyParts(t *testing.T) {
	for _, n := range []int{0, -1, -2, -3, -1023, -1024, -1025, -1 << 32, -1 << 62, least + 1, least} {
		for _, other := range []int{1, 2, 5, most, 0, -1, -5, least} {
			for _, p := range []at{{0, 0}, {4, 5}, {-4, -5}, {least, least}, {greatest, greatest}} {
				wantPoints(t, rect(p.x, p.y, n, other), nil)
				wantPoints(t, rect(p.x, p.y, other, n), nil)
			}
		}
	}
}

func TestPointsOfTheGreatestParts(t *testing.T) {
	for _, r := range []api.Rect{rect(0, 0, most, 1), rect(0, 0, 1, most), rect(-5, 9, most, most), rect(3, -4, most, most-1), rect(0, 0, most-1, most)} {
		wantPoints(t, r, placesOf(r))
	}
}

func TestNoPointsOfTooGreatParts(t *testing.T) {
	for _, n := range []int{1025, 1026, 2048, 65536, 1 << 32, 1<<32 + 1, 1 << 62, greatest - 1, greatest} {
		for _, other := range []int{1, 2, most, 1025, greatest, 0, -1, least} {
			wantPoints(t, rect(0, 0, n, other), nil)
			wantPoints(t, rect(4, -5, other, n), nil)
		}
	}
}

// The ends: the first place, a middle one of a row, the last one of a row, the first one of the next, the last but one, the last.
func TestPointsEndWhenTheyAreToldTo(t *testing.T) {
	for _, r := range []api.Rect{rect(0, 0, 1, 1), rect(4, 5, 5, 3), rect(-3, -2, 1, 4), rect(7, 0, 4, 1), rect(greatest-2, least, 3, 2), rect(0, 0, most, 2)} {
		want := placesOf(r)
		last := len(want) - 1
		points := split.Points(r)
		for _, end := range []int{0, r.W / 2, r.W - 1, min(r.W, last), min(r.W+r.W/2, last), max(last-1, 0), last} {
			var got []at
			for x, y := range points {
				if got = append(got, at{x, y}); len(got) > end {
					break
				}
			}
			if !slices.Equal(got, want[:end+1]) {
				t.Fatalf("%v, ended at %d: %v", r, end, got)
			}
		}
	}
}

func TestPointsAskNoMoreBehindAFalse(t *testing.T) {
	for _, r := range []api.Rect{rect(0, 0, 1, 1), rect(4, 5, 5, 3), rect(-3, -2, 1, 4), rect(7, 0, 4, 1), rect(0, 0, 40, 30)} {
		for end := range r.W * r.H {
			asked := 0
			split.Points(r)(func(int, int) bool {
				asked++
				return asked <= end
			})
			if asked != end+1 {
				t.Fatalf("%v, ended at %d: asked %d times", r, end, asked)
			}
		}
	}
}

func TestLoopsOfPointsAreApart(t *testing.T) {
	r := rect(-1, 2, 3, 2)
	points, want := split.Points(r), placesOf(r)
	var outer []at
	for x, y := range points {
		outer = append(outer, at{x, y})
		var inner []at
		for x, y := range points {
			inner = append(inner, at{x, y})
		}
		if !slices.Equal(inner, want) {
			t.Fatalf("inner of %d, %d: %v", x, y, inner)
		}
	}
	if !slices.Equal(outer, want) {
		t.Fatalf("outer: %v", outer)
	}
}

// P12.2: the part of a place.

func TestOfThatWasWorkedOut(t *testing.T) {
	for b, want := range map[band][]int{ // row by row, the part of each place
		{1, 1, 1, 1}:   {0},
		{3, 1, 2, 1}:   {0, 1, 1},
		{5, 3, 2, 2}:   {0, 0, 1, 1, 1, 2, 2, 3, 3, 3, 2, 2, 3, 3, 3},
		{1, 1, 3, 1}:   {2},
		{1, 1, 64, 64}: {4095},
		{2, 1, 5, 1}:   {2, 4},
		{1, 2, 1, 5}:   {2, 4},
		{2, 2, 5, 5}:   {12, 14, 22, 24},
		{3, 2, 7, 1}:   {2, 4, 6, 2, 4, 6},
		{4, 3, 1, 3}:   {0, 0, 0, 0, 1, 1, 1, 1, 2, 2, 2, 2},
		{10, 1, 3, 1}:  {0, 0, 0, 1, 1, 1, 2, 2, 2, 2},
		{1, 7, 1, 4}:   {0, 1, 1, 2, 2, 3, 3},
	} {
		for i, n := range want {
			wantOf(t, b, i%b.w, i/b.w, n)
		}
	}
	wantOf(t, band{1000, most, 64, 63}, 14, 64, 192)
	wantOf(t, band{1000, most, 64, 63}, 15, 65, 257)
	wantOf(t, band{1000, most, 64, 63}, 983, 1006, 3966)
	wantOf(t, band{1000, most, 64, 63}, 984, 1007, 4031)
}

// Each place is in the part whose sides are about it.
func TestOfEachPlace(t *testing.T) {
	for _, b := range fewBands() {
		across, down := borders(b.w, b.m), borders(b.h, b.n)
		for y := range b.h {
			j := slices.IndexFunc(down[1:], func(end int) bool { return y < end })
			for x := range b.w {
				i := slices.IndexFunc(across[1:], func(end int) bool { return x < end })
				wantOf(t, b, x, y, j*b.m+i)
			}
		}
	}
}

func TestOfPlacesOutside(t *testing.T) {
	for _, b := range fewBands() {
		for _, x := range []int{-1, -2, -b.w, b.w, b.w + 1, 2 * b.w, -1 << 32, 1 << 32, -1 << 62, 1 << 62, least, least + 1, greatest - 1, greatest} {
			for _, y := range []int{0, b.h / 2, b.h - 1, b.h, -1, least, greatest} {
				wantOf(t, b, x, y, -1)
			}
		}
		for _, y := range []int{-1, -2, -b.h, b.h, b.h + 1, 2 * b.h, -1 << 32, 1 << 32, -1 << 62, 1 << 62, least, least + 1, greatest - 1, greatest} {
			for _, x := range []int{0, b.w / 2, b.w - 1, b.w, -1, least, greatest} {
				wantOf(t, b, x, y, -1)
			}
		}
	}
}

func TestOfWhatIsNotRight(t *testing.T) {
	for _, b := range wrongBands() {
		for _, x := range []int{-1, 0, 1, 2, 1023, 1024, least, greatest, b.w - 1} {
			for _, y := range []int{-1, 0, 1, 2, 1023, 1024, least, greatest, b.h - 1} {
				wantOf(t, b, x, y, -1)
			}
		}
	}
}

// P12.3: the parts cover a band, each place once.

// wantCovered: the parts of a band tell each place just once, in the part that Of names.
func wantCovered(t *testing.T, b band) {
	t.Helper()
	times := make([]int, b.w*b.h)
	for i, r := range split.All(b.w, b.h, b.m, b.n) {
		for x, y := range split.Points(r) {
			if x < 0 || x >= b.w || y < 0 || y >= b.h {
				t.Fatalf("%v: part %d tells %d, %d", b, i, x, y)
			}
			times[y*b.w+x]++
			wantOf(t, b, x, y, i)
		}
	}
	if i := slices.IndexFunc(times, func(n int) bool { return n != 1 }); i >= 0 {
		t.Fatalf("%v: %d, %d is told %d times", b, i%b.w, i/b.w, times[i])
	}
}

func TestPartsCoverABand(t *testing.T) {
	for _, b := range fewBands() {
		wantCovered(t, b)
	}
}

func TestPartsCoverAllSmallBands(t *testing.T) {
	for w := 1; w <= 7; w++ {
		for h := 1; h <= 7; h++ {
			for m := 1; m <= 9; m++ {
				for n := 1; n <= 9; n++ {
					wantCovered(t, band{w, h, m, n})
				}
			}
		}
	}
}

func FuzzAnyParts(f *testing.F) {
	f.Add(3, 1, 2, 1, 0, 0, 1, 1)
	f.Add(most, most, 64, 64, -1, 1023, most, most+1)
	f.Add(0, 1025, 65, -1, greatest, least, 2, 2)
	f.Add(1, 1, 64, 63, 0, 0, -1, greatest)
	f.Fuzz(func(t *testing.T, w, h, m, n, x, y, rw, rh int) {
		b, r := band{w, h, m, n}, rect(x, y, rw, rh)
		if w < 1 || w > most || h < 1 || h > most || m < 1 || m > mostHave || n < 1 || n > mostHave {
			wantRight(t, b, false)
		} else {
			wantRight(t, b, true)
			wantParts(t, b, listed(b))
			wantCovered(t, b)
		}
		inside := x >= 0 && x < w && y >= 0 && y < h
		if got := split.Of(w, h, m, n, x, y); got >= 0 != (inside && split.Right(w, h, m, n)) {
			t.Fatal(fmt.Sprint(b, ": Of ", x, ", ", y, " is ", got))
		}
		if rw < 1 || rw > most || rh < 1 || rh > most {
			wantPoints(t, r, nil)
		} else {
			wantPoints(t, r, placesOf(r))
		}
	})
}
