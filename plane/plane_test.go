package plane_test

import (
	"fmt"
	"math"
	"slices"
	"testing"

	"shingle/api"
	"shingle/plane"
)

const most = 1024 // of a side

// place of a plane.
type place struct{ x, y int }

// source of numbers for the tests, the same in each run.
type source uint64

func (s *source) next() int {
	*s ^= *s << 13
	*s ^= *s >> 7
	*s ^= *s << 17
	return int(*s)
}

// drawn plane of numbers of all 64 bits.
func drawn(w, h int) api.Plane {
	s := source(0x6a09e667f3bcc909 + uint64(w)<<20 + uint64(h))
	v := make([]int, w*h)
	for i := range v {
		v[i] = s.next()
	}
	return api.Plane{W: w, H: h, V: v}
}

// counted plane: 1, 2, 3 and so on, so that each place has a number of its own.
func counted(w, h int) api.Plane {
	v := make([]int, w*h)
	for i := range v {
		v[i] = i + 1
	}
	return api.Plane{W: w, H: h, V: v}
}

// sides of planes that are right: the least, one row, one column, not square, square, and the greatest of a side.
func sides() [][2]int {
	return [][2]int{{1, 1}, {7, 1}, {1, 7}, {3, 2}, {2, 3}, {4, 4}, {5, 9}, {17, 6}, {most, 1}, {1, most}, {most, 3}, {2, most}, {most, most}}
}

// fewSides: those that are looked at place by place at a high price.
func fewSides() [][2]int {
	return [][2]int{{1, 1}, {7, 1}, {1, 7}, {3, 2}, {2, 3}, {4, 4}, {5, 9}, {most, 2}, {2, most}}
}

// wrongSides that no plane has.
func wrongSides() []int {
	return []int{0, -1, -2, most + 1, most + 2, 2 * most, 1 << 32, -1 << 32, 1 << 62, math.MaxInt - 1, math.MaxInt, math.MinInt + 1, math.MinInt}
}

// wrongPlanes by name.
func wrongPlanes() map[string]api.Plane {
	out := map[string]api.Plane{
		"zero":                  {},
		"numbers without sides": {V: []int{1, 2, 3, 4}},
		"nil":                   {W: 2, H: 2},
		"empty":                 {W: 2, H: 2, V: []int{}},
		"room alone":            {W: 2, H: 2, V: make([]int, 0, 4)},
		"one too few":           {W: 2, H: 2, V: []int{1, 2, 3}},
		"one too few, one row":  {W: 2, H: 1, V: []int{1}},
		"one too many":          {W: 2, H: 2, V: []int{1, 2, 3, 4, 5}},
		"one too many, 1 by 1":  {W: 1, H: 1, V: []int{1, 2}},
		"none, 1 by 1":          {W: 1, H: 1},
		"a row too few":         {W: 2, H: 3, V: []int{1, 2, 3, 4}},
		"a row too many":        {W: 2, H: 1, V: []int{1, 2, 3, 4}},
		"both below 0":          {W: -2, H: -2, V: []int{1, 2, 3, 4}},
		"most too few":          {W: most, H: most, V: make([]int, most*most-1)},
		"most too many":         {W: most, H: most, V: make([]int, most*most+1)},
		"wide":                  {W: most + 1, H: 1, V: make([]int, most+1)},
		"high":                  {W: 1, H: most + 1, V: make([]int, most+1)},
		"both":                  {W: most + 1, H: most + 1, V: make([]int, (most+1)*(most+1))},
		"wraps to 0":            {W: 1 << 32, H: 1 << 32},
		"wraps to 0, 4 high":    {W: 1 << 62, H: 4, V: []int{}},
		"wraps to 0, 4 wide":    {W: 4, H: 1 << 62},
		"wraps to 8":            {W: 1<<61 + 1, H: 8, V: make([]int, 8)},
		"wraps to 8, turned":    {W: 8, H: 1<<61 + 1, V: make([]int, 8)},
		"wraps to 2":            {W: -0x5555555555555555, H: 6, V: []int{1, 2}},
		"wraps to 6":            {W: 2, H: math.MinInt + 3, V: make([]int, 6)},
		"wraps to 1":            {W: math.MaxInt, H: math.MaxInt, V: []int{1}},
		"least by least":        {W: math.MinInt, H: math.MinInt},
	}
	for _, n := range wrongSides() {
		for _, count := range []int{0, 1, 2, 4} {
			out[fmt.Sprint(n, " wide, ", count)] = api.Plane{W: n, H: 2, V: make([]int, count)}
			out[fmt.Sprint(n, " high, ", count)] = api.Plane{W: 1, H: n, V: make([]int, count)}
		}
	}
	return out
}

// clone of a plane, right or not: the numbers are its own.
func clone(p api.Plane) api.Plane {
	return api.Plane{W: p.W, H: p.H, V: slices.Clone(p.V)}
}

// equal field by field, right or not.
func equal(p, q api.Plane) bool {
	return p.W == q.W && p.H == q.H && slices.Equal(p.V, q.V)
}

func wantPlane(t *testing.T, what string, got, want api.Plane) {
	t.Helper()
	if !equal(got, want) {
		t.Fatalf("%s: %d by %d, %d numbers, not the %d by %d that it is", what, got.W, got.H, len(got.V), want.W, want.H)
	}
}

func wantNone(t *testing.T, what string, got api.Plane) {
	t.Helper()
	if got.W != 0 || got.H != 0 || len(got.V) != 0 {
		t.Errorf("%s: %d by %d, %d numbers", what, got.W, got.H, len(got.V))
	}
}

// near is the nearest of the numbers from 0 to count - 1, by the chapter's words.
func near(n, count int) int {
	switch {
	case n < 0:
		return 0
	case n >= count:
		return count - 1
	}
	return n
}

// at a place, by the chapter's words.
func at(p api.Plane, x, y int) int {
	return p.V[near(y, p.H)*p.W+near(x, p.W)]
}

// laid: p on a plane of w by h, by the chapter's words.
func laid(p api.Plane, w, h int) api.Plane {
	out := api.Plane{W: w, H: h}
	for y := range h {
		for x := range w {
			out.V = append(out.V, at(p, x, y))
		}
	}
	return out
}

// spots: coordinates within a side, at its edges and without.
func spots(count int) []int {
	return []int{0, 1, count / 2, count - 1, count, count + 1, 2 * count, 1 << 32, 1 << 62, math.MaxInt - 1, math.MaxInt,
		-1, -2, -count, -1 << 32, -1 << 62, math.MinInt + 1, math.MinInt}
}

// P7.1: what a plane is, its number at any place, which two are alike.

func TestNewIsOfNoughts(t *testing.T) {
	for _, s := range sides() {
		p := plane.New(s[0], s[1])
		wantPlane(t, fmt.Sprint("New of ", s), p, api.Plane{W: s[0], H: s[1], V: make([]int, s[0]*s[1])})
		if !plane.Right(p) {
			t.Errorf("New of %v isn't right", s)
		}
	}
}

func TestNewOfWrongSides(t *testing.T) {
	for _, n := range wrongSides() {
		for _, m := range append(wrongSides(), 1, 2, 8, most) {
			wantNone(t, fmt.Sprint("New of ", n, " by ", m), plane.New(n, m))
			wantNone(t, fmt.Sprint("New of ", m, " by ", n), plane.New(m, n))
		}
	}
}

func TestRight(t *testing.T) {
	for _, s := range sides() {
		if !plane.Right(drawn(s[0], s[1])) {
			t.Errorf("%v isn't right", s)
		}
	}
	if p := (api.Plane{W: 2, H: 2, V: make([]int, 4, 9)}); !plane.Right(p) {
		t.Error("room behind the numbers isn't right")
	}
	for name, p := range wrongPlanes() {
		if plane.Right(p) {
			t.Errorf("%s is right", name)
		}
	}
}

func TestAtEachPlace(t *testing.T) {
	for _, s := range sides() {
		p := drawn(s[0], s[1])
		for i, v := range p.V {
			if got := plane.At(p, i%p.W, i/p.W); got != v {
				t.Fatalf("%v: %d at %d, %d, not %d", s, got, i%p.W, i/p.W, v)
			}
		}
	}
}

func TestAtWithoutIsTheNearestWithin(t *testing.T) {
	for _, s := range sides() {
		p := drawn(s[0], s[1])
		for _, x := range spots(p.W) {
			for _, y := range spots(p.H) {
				if got, want := plane.At(p, x, y), at(p, x, y); got != want {
					t.Errorf("%v: %d at %d, %d, not %d", s, got, x, y, want)
				}
			}
		}
	}
}

func TestAtThatWasWorkedOut(t *testing.T) {
	p := api.Plane{W: 3, H: 2, V: []int{1, 2, 3, 4, 5, 6}}
	for at, want := range map[place]int{{0, 0}: 1, {2, 0}: 3, {0, 1}: 4, {1, 1}: 5, {2, 1}: 6,
		{-1, -1}: 1, {1, -1}: 2, {3, -1}: 3, {-1, 1}: 4, {-1, 2}: 4, {1, 2}: 5, {3, 1}: 6, {3, 2}: 6,
		{math.MinInt, math.MinInt}: 1, {math.MaxInt, math.MinInt}: 3, {math.MinInt, math.MaxInt}: 4, {math.MaxInt, math.MaxInt}: 6,
		{1, math.MinInt}: 2, {1, math.MaxInt}: 5, {math.MinInt, 1}: 4, {math.MaxInt, 0}: 3} {
		if got := plane.At(p, at.x, at.y); got != want {
			t.Errorf("%d at %v, not %d", got, at, want)
		}
	}
}

func TestAtOfOneByOne(t *testing.T) {
	p := api.Plane{W: 1, H: 1, V: []int{-77}}
	for _, x := range spots(1) {
		for _, y := range spots(1) {
			if got := plane.At(p, x, y); got != -77 {
				t.Errorf("%d at %d, %d", got, x, y)
			}
		}
	}
}

func TestAtOfWrongPlanes(t *testing.T) {
	for name, p := range wrongPlanes() {
		for i := range p.V {
			p.V[i] = 9
		}
		for _, x := range []int{0, 1, -1, math.MinInt, math.MaxInt} {
			for _, y := range []int{0, 1, -1, math.MinInt, math.MaxInt} {
				if got := plane.At(p, x, y); got != 0 {
					t.Errorf("%s: %d at %d, %d", name, got, x, y)
				}
			}
		}
	}
}

func TestSame(t *testing.T) {
	for _, s := range sides() {
		p := drawn(s[0], s[1])
		if !plane.Same(p, p) || !plane.Same(p, clone(p)) {
			t.Errorf("%v isn't the same", s)
		}
		for _, i := range []int{0, len(p.V) / 2, len(p.V) - 1} {
			q := clone(p)
			q.V[i] ^= 1
			if plane.Same(p, q) || plane.Same(q, p) {
				t.Errorf("%v: the same, but for the number %d", s, i)
			}
		}
	}
}

func TestSameOfOtherSides(t *testing.T) {
	all := [][2]int{{1, 12}, {12, 1}, {2, 6}, {6, 2}, {3, 4}, {4, 3}, {3, 3}, {4, 4}, {1, 1}}
	for _, s := range all {
		for _, r := range all {
			p, q := plane.New(s[0], s[1]), plane.New(r[0], r[1])
			if got := plane.Same(p, q); got != (s == r) {
				t.Errorf("Same of %v and %v: %v", s, r, got)
			}
		}
	}
}

func TestSameOfRoom(t *testing.T) {
	room := []int{1, 2, 3, 4, 5, 6}
	p, q := api.Plane{W: 2, H: 2, V: room[:4]}, api.Plane{W: 2, H: 2, V: []int{1, 2, 3, 4}}
	if !plane.Same(p, q) || !plane.Same(q, p) {
		t.Error("room behind the numbers counts")
	}
}

func TestSameOfWrongPlanes(t *testing.T) {
	for name, p := range wrongPlanes() {
		if plane.Same(p, p) || plane.Same(p, clone(p)) {
			t.Errorf("%s: the same as itself", name)
		}
		for _, q := range []api.Plane{{}, counted(2, 2), plane.New(1, 1)} {
			if plane.Same(p, q) || plane.Same(q, p) {
				t.Errorf("%s: the same as %v", name, q)
			}
		}
	}
}

// P7.2: rows and places, in their order, as far as they are asked for.

func TestRowsInTheirOrder(t *testing.T) {
	for _, s := range sides() {
		p := drawn(s[0], s[1])
		next := 0
		for y, row := range plane.Rows(p) {
			if y != next || !slices.Equal(row, p.V[y*p.W:(y+1)*p.W]) {
				t.Fatalf("%v: row %d as %d", s, y, next)
			}
			next++
		}
		if next != p.H {
			t.Errorf("%v: %d rows", s, next)
		}
	}
}

func TestPointsInTheirOrder(t *testing.T) {
	for _, s := range sides() {
		p, next := plane.New(s[0], s[1]), 0
		for x, y := range plane.Points(p) {
			if x != next%p.W || y != next/p.W {
				t.Fatalf("%v: %d, %d as place %d", s, x, y, next)
			}
			next++
		}
		if next != p.W*p.H {
			t.Errorf("%v: %d places", s, next)
		}
	}
}

func TestRowsAndPointsThatWereWorkedOut(t *testing.T) {
	p := api.Plane{W: 2, H: 3, V: []int{7, -8, 9, 10, -11, 12}}
	text := ""
	for y, row := range plane.Rows(p) {
		text += fmt.Sprint(y, row)
	}
	if text != "0 [7 -8]1 [9 10]2 [-11 12]" {
		t.Error(text)
	}
	var places []place
	for x, y := range plane.Points(p) {
		places = append(places, place{x, y})
	}
	if !slices.Equal(places, []place{{0, 0}, {1, 0}, {0, 1}, {1, 1}, {0, 2}, {1, 2}}) {
		t.Error(places)
	}
}

// rowsUntil so many are told, by a function that says no from then on: how often it was asked.
func rowsUntil(p api.Plane, count int) int {
	asked := 0
	plane.Rows(p)(func(int, []int) bool {
		asked++
		return asked < count
	})
	return asked
}

// pointsUntil so many are told, likewise.
func pointsUntil(p api.Plane, count int) int {
	asked := 0
	plane.Points(p)(func(int, int) bool {
		asked++
		return asked < count
	})
	return asked
}

func TestBothEndWhenTheyAreToldTo(t *testing.T) {
	for _, s := range fewSides() {
		p := drawn(s[0], s[1])
		for count := 1; count <= p.H; count++ {
			if got := rowsUntil(p, count); got != count {
				t.Fatalf("%v: %d rows, not %d", s, got, count)
			}
		}
		for count := 1; count <= p.W*p.H; count++ {
			if got := pointsUntil(p, count); got != count {
				t.Fatalf("%v: %d places, not %d", s, got, count)
			}
		}
	}
}

func TestIteratorsAreGoneThroughAgain(t *testing.T) {
	p := drawn(5, 4)
	rows, points := plane.Rows(p), plane.Points(p)
	for _, leave := range []int{0, 2, 3, 99, 1, 99} {
		seen := []int{}
		for y, row := range rows {
			seen = append(seen, row...)
			if y == leave {
				break
			}
		}
		if !slices.Equal(seen, p.V[:5*min(leave+1, 4)]) {
			t.Errorf("rows left at %d: %v", leave, seen)
		}
	}
	for _, leave := range []int{0, 7, 19, 99, 4, 5, 99} {
		seen := []int{}
		for x, y := range points {
			seen = append(seen, plane.At(p, x, y))
			if len(seen) > leave {
				break
			}
		}
		if !slices.Equal(seen, p.V[:min(leave+1, 20)]) {
			t.Errorf("places left at %d: %v", leave, seen)
		}
	}
}

func TestIteratorsWithinThemselves(t *testing.T) {
	p := counted(3, 4)
	rows, points := plane.Rows(p), plane.Points(p)
	sum, places := 0, 0
outer:
	for y, row := range rows {
		for z, other := range rows {
			if z > y {
				continue outer
			}
			sum += row[0] * other[2]
		}
	}
	if want := 1*3 + 4*(3+6) + 7*(3+6+9) + 10*(3+6+9+12); sum != want {
		t.Errorf("%d, not %d", sum, want)
	}
	for range points {
		for range points {
			places++
		}
	}
	if places != 144 {
		t.Errorf("%d places", places)
	}
}

func TestRowsAndPointsOfWrongPlanes(t *testing.T) {
	for name, p := range wrongPlanes() {
		for y, row := range plane.Rows(p) {
			t.Fatalf("%s: row %d, %v", name, y, row)
		}
		for x, y := range plane.Points(p) {
			t.Fatalf("%s: place %d, %d", name, x, y)
		}
	}
}

func TestRowsAreCopies(t *testing.T) {
	for _, s := range fewSides() {
		p := drawn(s[0], s[1])
		was, it := clone(p), plane.Rows(p)
		var all [][]int
		for range 2 {
			for y, row := range it {
				if !slices.Equal(row, was.V[y*p.W:(y+1)*p.W]) {
					t.Fatalf("%v: row %d was changed by another one", s, y)
				}
				row = row[:cap(row)]
				for i := range row {
					row[i] = len(all)
				}
				all = append(all, row)
			}
		}
		for i, row := range all {
			if slices.Min(row) != i || slices.Max(row) != i {
				t.Fatalf("%v: row %d shares its numbers with another one", s, i)
			}
		}
		wantPlane(t, fmt.Sprint(s), p, was)
	}
}

func TestIteratorsKeepNothing(t *testing.T) {
	p := counted(3, 4)
	rows, points := plane.Rows(p), plane.Points(p)
	clear(p.V)
	p.W, p.H = 4, 3
	next := 1
	for y, row := range rows {
		if !slices.Equal(row, []int{next, next + 1, next + 2}) {
			t.Errorf("row %d: %v", y, row)
		}
		next += 3
	}
	count, last := 0, place{}
	for x, y := range points {
		count, last = count+1, place{x, y}
	}
	if next != 13 || count != 12 || last != (place{2, 3}) {
		t.Errorf("%d, %d places, the last one %v", next, count, last)
	}
}

func TestRowsOfAPlaneThatChangesMeanwhile(t *testing.T) {
	p := counted(2, 3)
	seen := []int{}
	for _, row := range plane.Rows(p) {
		seen = append(seen, row...)
		clear(p.V)
	}
	if !slices.Equal(seen, []int{1, 2, 3, 4, 5, 6}) {
		t.Error(seen)
	}
}

// P7.3: planes that are made of others.

func TestPadThatWasWorkedOut(t *testing.T) {
	p := api.Plane{W: 2, H: 2, V: []int{1, 2, 3, 4}}
	for to, want := range map[[2]int][]int{
		{2, 2}: {1, 2, 3, 4},
		{3, 2}: {1, 2, 2, 3, 4, 4},
		{2, 3}: {1, 2, 3, 4, 3, 4},
		{4, 3}: {1, 2, 2, 2, 3, 4, 4, 4, 3, 4, 4, 4},
	} {
		wantPlane(t, fmt.Sprint("Pad to ", to), plane.Pad(p, to[0], to[1]), api.Plane{W: to[0], H: to[1], V: want})
	}
}

func TestCropThatWasWorkedOut(t *testing.T) {
	p := api.Plane{W: 3, H: 3, V: []int{1, 2, 3, 4, 5, 6, 7, 8, 9}}
	for to, want := range map[[2]int][]int{
		{3, 3}: {1, 2, 3, 4, 5, 6, 7, 8, 9},
		{2, 3}: {1, 2, 4, 5, 7, 8},
		{3, 2}: {1, 2, 3, 4, 5, 6},
		{2, 2}: {1, 2, 4, 5},
		{1, 3}: {1, 4, 7},
		{3, 1}: {1, 2, 3},
		{1, 1}: {1},
	} {
		wantPlane(t, fmt.Sprint("Crop to ", to), plane.Crop(p, to[0], to[1]), api.Plane{W: to[0], H: to[1], V: want})
	}
}

// lengths that a side is changed to: as it is, greater, lesser, at the limit and beyond.
func lengths(n int) []int {
	return append(wrongSides(), 1, 2, n-1, n, n+1, 2*n, most-1, most)
}

func within(n int) bool { return n >= 1 && n <= most }

func TestPadAndCropToAnySides(t *testing.T) {
	for _, s := range fewSides() {
		p := drawn(s[0], s[1])
		for _, w := range lengths(p.W) {
			for _, h := range lengths(p.H) {
				what := fmt.Sprint(" of ", s, " to ", w, " by ", h)
				pad, crop := plane.Pad(p, w, h), plane.Crop(p, w, h)
				may := within(w) && within(h)
				if may && w >= p.W && h >= p.H {
					wantPlane(t, "Pad"+what, pad, laid(p, w, h))
				} else {
					wantNone(t, "Pad"+what, pad)
				}
				if may && w <= p.W && h <= p.H {
					wantPlane(t, "Crop"+what, crop, laid(p, w, h))
				} else {
					wantNone(t, "Crop"+what, crop)
				}
			}
		}
	}
}

func TestPadAndCropOfWrongPlanes(t *testing.T) {
	for name, p := range wrongPlanes() {
		for _, w := range []int{p.W, p.W + 1, p.W - 1, 0, 1, 2, 4, most} {
			for _, h := range []int{p.H, p.H + 1, p.H - 1, 0, 1, 2, 4, most} {
				wantNone(t, fmt.Sprint("Pad of ", name, " to ", w, " by ", h), plane.Pad(p, w, h))
				wantNone(t, fmt.Sprint("Crop of ", name, " to ", w, " by ", h), plane.Crop(p, w, h))
			}
		}
	}
}

func TestAddAndSubOfEachNumber(t *testing.T) {
	for _, s := range sides() {
		p := drawn(s[0], s[1])
		q := clone(p)
		slices.Reverse(q.V)
		sum, rest := plane.Add(p, q), plane.Sub(p, q)
		add, sub := clone(p), clone(p)
		for i := range p.V {
			add.V[i] += q.V[i]
			sub.V[i] -= q.V[i]
		}
		wantPlane(t, fmt.Sprint("Add of ", s), sum, add)
		wantPlane(t, fmt.Sprint("Sub of ", s), rest, sub)
		wantPlane(t, fmt.Sprint("Sub of itself, ", s), plane.Sub(p, p), plane.New(s[0], s[1]))
	}
}

func TestAddAndSubThatWereWorkedOut(t *testing.T) {
	const top, bottom = math.MaxInt, math.MinInt
	p := api.Plane{W: 3, H: 2, V: []int{1, -2, top, bottom, bottom, top}}
	q := api.Plane{W: 3, H: 2, V: []int{10, 5, 1, -1, bottom, bottom}}
	wantPlane(t, "Add", plane.Add(p, q), api.Plane{W: 3, H: 2, V: []int{11, 3, bottom, top, 0, -1}})
	wantPlane(t, "Sub", plane.Sub(p, q), api.Plane{W: 3, H: 2, V: []int{-9, -7, top - 1, bottom + 1, 0, -1}})
	wantPlane(t, "Sub the other way", plane.Sub(q, p), api.Plane{W: 3, H: 2, V: []int{9, 7, bottom + 2, top, 0, 1}})
}

func TestAddAndSubOfUnlikeSides(t *testing.T) {
	all := [][2]int{{1, 12}, {12, 1}, {2, 6}, {6, 2}, {3, 4}, {4, 3}, {3, 3}, {4, 4}, {1, 1}, {most, 12}}
	for i, s := range all {
		for j, r := range all {
			if i == j {
				continue
			}
			p, q := counted(s[0], s[1]), counted(r[0], r[1])
			wantNone(t, fmt.Sprint("Add of ", s, " and ", r), plane.Add(p, q))
			wantNone(t, fmt.Sprint("Sub of ", s, " and ", r), plane.Sub(p, q))
		}
	}
}

func TestAddAndSubOfWrongPlanes(t *testing.T) {
	for name, p := range wrongPlanes() {
		for _, q := range []api.Plane{p, {}, counted(2, 2), counted(1, 1), counted(1, 2), {W: p.W, H: p.H, V: make([]int, 4)}} {
			wantNone(t, "Add of "+name, plane.Add(p, q))
			wantNone(t, "Sub of "+name, plane.Sub(p, q))
			if plane.Right(q) {
				wantNone(t, "Add to "+name, plane.Add(q, p))
				wantNone(t, "Sub from "+name, plane.Sub(q, p))
			}
		}
	}
}

func TestClipThatWasWorkedOut(t *testing.T) {
	p := api.Plane{W: 4, H: 2, V: []int{math.MinInt, -6, -5, -1, 0, 3, 4, math.MaxInt}}
	for of, want := range map[[2]int][]int{
		{-5, 3}:                      {-5, -5, -5, -1, 0, 3, 3, 3},
		{0, 0}:                       {0, 0, 0, 0, 0, 0, 0, 0},
		{3, -5}:                      {-5, -5, -5, -5, -5, -5, -5, -5},
		{4, 3}:                       {3, 3, 3, 3, 3, 3, 3, 3},
		{math.MinInt, math.MaxInt}:   {math.MinInt, -6, -5, -1, 0, 3, 4, math.MaxInt},
		{math.MaxInt, math.MinInt}:   {math.MinInt, math.MinInt, math.MinInt, math.MinInt, math.MinInt, math.MinInt, math.MinInt, math.MinInt},
		{math.MaxInt, math.MaxInt}:   {math.MaxInt, math.MaxInt, math.MaxInt, math.MaxInt, math.MaxInt, math.MaxInt, math.MaxInt, math.MaxInt},
		{math.MinInt, -6}:            {math.MinInt, -6, -6, -6, -6, -6, -6, -6},
		{4, math.MaxInt}:             {4, 4, 4, 4, 4, 4, 4, math.MaxInt},
		{math.MinInt + 1, 1<<63 - 2}: {math.MinInt + 1, -6, -5, -1, 0, 3, 4, math.MaxInt - 1},
	} {
		wantPlane(t, fmt.Sprint("Clip by ", of), plane.Clip(p, of[0], of[1]), api.Plane{W: 4, H: 2, V: want})
	}
}

func TestClipOfEachNumber(t *testing.T) {
	for _, s := range sides() {
		p := drawn(s[0], s[1])
		for _, of := range [][2]int{{-1 << 62, 1 << 61}, {0, 255}, {1 << 60, -1 << 60}} {
			want := clone(p)
			for i, v := range want.V {
				if v < of[0] {
					v = of[0]
				}
				if v > of[1] {
					v = of[1]
				}
				want.V[i] = v
			}
			wantPlane(t, fmt.Sprint("Clip of ", s, " by ", of), plane.Clip(p, of[0], of[1]), want)
		}
	}
}

func TestTurnThatWasWorkedOut(t *testing.T) {
	for _, both := range [][2]api.Plane{
		{{W: 1, H: 1, V: []int{-3}}, {W: 1, H: 1, V: []int{-3}}},
		{{W: 3, H: 1, V: []int{1, 2, 3}}, {W: 1, H: 3, V: []int{1, 2, 3}}},
		{{W: 2, H: 2, V: []int{1, 2, 3, 4}}, {W: 2, H: 2, V: []int{1, 3, 2, 4}}},
		{{W: 3, H: 2, V: []int{1, 2, 3, 4, 5, 6}}, {W: 2, H: 3, V: []int{1, 4, 2, 5, 3, 6}}},
	} {
		wantPlane(t, "Turn", plane.Turn(both[0]), both[1])
		wantPlane(t, "Turn back", plane.Turn(both[1]), both[0])
	}
}

func TestTurnOfEachNumber(t *testing.T) {
	for _, s := range sides() {
		p := drawn(s[0], s[1])
		q := plane.Turn(p)
		if q.W != p.H || q.H != p.W || len(q.V) != len(p.V) {
			t.Fatalf("%v: %d by %d, %d numbers", s, q.W, q.H, len(q.V))
		}
		for i, v := range q.V {
			if x, y := i%q.W, i/q.W; v != p.V[x*p.W+y] {
				t.Fatalf("%v: %d at %d, %d", s, v, x, y)
			}
		}
	}
}

func TestClipAndTurnOfWrongPlanes(t *testing.T) {
	for name, p := range wrongPlanes() {
		wantNone(t, "Turn of "+name, plane.Turn(p))
		for _, of := range [][2]int{{0, 255}, {9, 4}, {math.MinInt, math.MaxInt}, {math.MaxInt, math.MinInt}} {
			wantNone(t, "Clip of "+name, plane.Clip(p, of[0], of[1]))
		}
	}
}

// P7.4: what is done and undone is as it was.

func TestPaddedAndCroppedIsAsItWas(t *testing.T) {
	for _, s := range fewSides() {
		p := drawn(s[0], s[1])
		for _, w := range []int{p.W, p.W + 1, 2 * p.W, most} {
			for _, h := range []int{p.H, p.H + 1, 3 * p.H, most} {
				if !within(w) || !within(h) {
					continue
				}
				wantPlane(t, fmt.Sprint(s, " by ", w, " and ", h), plane.Crop(plane.Pad(p, w, h), p.W, p.H), p)
			}
		}
	}
}

func TestTurnedTwiceIsAsItWas(t *testing.T) {
	for _, s := range sides() {
		p := drawn(s[0], s[1])
		wantPlane(t, fmt.Sprint(s), plane.Turn(plane.Turn(p)), p)
	}
}

func TestAddedAndSubtractedIsAsItWas(t *testing.T) {
	for _, s := range sides() {
		p, q := drawn(s[0], s[1]), counted(s[0], s[1])
		slices.Reverse(q.V)
		q.V[0], q.V[len(q.V)-1] = math.MinInt, math.MaxInt
		wantPlane(t, fmt.Sprint(s, ", added first"), plane.Sub(plane.Add(p, q), q), p)
		wantPlane(t, fmt.Sprint(s, ", subtracted first"), plane.Add(plane.Sub(p, q), q), p)
		wantPlane(t, fmt.Sprint(s, ", to itself"), plane.Sub(plane.Add(p, p), p), p)
	}
}

// Memory.

// makers of a plane from two of the same sides, w by h, by name.
func makers(w, h int) map[string]func(p, q api.Plane) api.Plane {
	return map[string]func(p, q api.Plane) api.Plane{
		"New":          func(p, q api.Plane) api.Plane { return plane.New(w, h) },
		"Pad by none":  func(p, q api.Plane) api.Plane { return plane.Pad(p, w, h) },
		"Pad":          func(p, q api.Plane) api.Plane { return plane.Pad(p, w+1, h+2) },
		"Pad down":     func(p, q api.Plane) api.Plane { return plane.Pad(p, w, h+1) },
		"Crop by none": func(p, q api.Plane) api.Plane { return plane.Crop(p, w, h) },
		"Crop":         func(p, q api.Plane) api.Plane { return plane.Crop(p, max(w-1, 1), max(h-1, 1)) },
		"Crop rows":    func(p, q api.Plane) api.Plane { return plane.Crop(p, w, 1) },
		"Add":          func(p, q api.Plane) api.Plane { return plane.Add(p, q) },
		"Add itself":   func(p, q api.Plane) api.Plane { return plane.Add(p, p) },
		"Sub":          func(p, q api.Plane) api.Plane { return plane.Sub(p, q) },
		"Clip":         func(p, q api.Plane) api.Plane { return plane.Clip(p, 2, 4) },
		"Clip nothing": func(p, q api.Plane) api.Plane { return plane.Clip(p, math.MinInt, math.MaxInt) },
		"Turn":         func(p, q api.Plane) api.Plane { return plane.Turn(p) },
	}
}

// roomy plane: its numbers have room behind them, which the second result shows too.
func roomy(p api.Plane) (api.Plane, []int) {
	room := append(slices.Clone(p.V), 71, 72, 73, 74, 75, 76, 77)
	return api.Plane{W: p.W, H: p.H, V: room[:len(p.V)]}, room
}

func TestPlanesAreNeitherChangedNorKept(t *testing.T) {
	for _, s := range [][2]int{{1, 1}, {5, 1}, {1, 5}, {4, 3}, {3, 3}} {
		for name, build := range makers(s[0], s[1]) {
			p, room := roomy(counted(s[0], s[1]))
			q, other := roomy(drawn(s[0], s[1]))
			was, otherWas := slices.Clone(room), slices.Clone(other)
			got := build(p, q)
			if !plane.Right(got) {
				t.Fatalf("%s of %v isn't right", name, s)
			}
			want := clone(got)
			if !slices.Equal(room, was) || !slices.Equal(other, otherWas) {
				t.Fatalf("%s of %v changes what is handed in", name, s)
			}
			clear(room)
			clear(other)
			wantPlane(t, name+" behind a change", got, want)
		}
	}
}

func TestAnswersAreNewMemory(t *testing.T) {
	for _, s := range [][2]int{{1, 1}, {5, 1}, {1, 5}, {4, 3}, {3, 3}} {
		for name, build := range makers(s[0], s[1]) {
			p, room := roomy(counted(s[0], s[1]))
			q, other := roomy(drawn(s[0], s[1]))
			was, otherWas := slices.Clone(room), slices.Clone(other)
			got, second := build(p, q), build(p, q)
			want := clone(second)
			all := got.V[:cap(got.V)]
			for i := range all {
				all[i] = -99
			}
			if !slices.Equal(room, was) || !slices.Equal(other, otherWas) {
				t.Fatalf("%s of %v shares what is handed in", name, s)
			}
			wantPlane(t, name+" twice", second, want)
			wantPlane(t, name+" again", build(p, q), want)
		}
	}
}

func TestWhatIsLookedAtIsNotChanged(t *testing.T) {
	p, room := roomy(counted(4, 3))
	was := slices.Clone(room)
	plane.Right(p)
	plane.Same(p, p)
	plane.At(p, 9, -9)
	for range plane.Points(p) {
	}
	for _, row := range plane.Rows(p) {
		row = row[:cap(row)]
		clear(row)
		_ = append(row, 1)
	}
	if !slices.Equal(room, was) {
		t.Error(room)
	}
}

func TestWrongPlanesAreNotChanged(t *testing.T) {
	for name, p := range wrongPlanes() {
		for i := range p.V {
			p.V[i] = i
		}
		was := clone(p)
		for _, build := range makers(2, 2) {
			build(p, p)
		}
		plane.Same(p, p)
		for range plane.Rows(p) {
		}
		wantPlane(t, name, p, was)
	}
}

// fuzzPlane of bytes, right or not.
func fuzzPlane(w, h int, b []byte) api.Plane {
	p := api.Plane{W: w, H: h}
	for _, v := range b {
		p.V = append(p.V, int(v)-128)
	}
	return p
}

// fuzzRight: is the plane right, by the chapter's words?
func fuzzRight(p api.Plane) bool {
	return within(p.W) && within(p.H) && len(p.V) == p.W*p.H
}

func FuzzAnyPlanes(f *testing.F) {
	f.Add(3, 2, []byte("abcdef"), 4, 4, -1)
	f.Add(2, 3, []byte("abcdef"), 1, 2, math.MaxInt)
	f.Add(1, 1, []byte{0}, 1, 1, math.MinInt)
	f.Add(0, 0, []byte{}, 0, 0, 0)
	f.Add(1<<32, 1<<32, []byte{}, 1025, 1, 5)
	f.Fuzz(func(t *testing.T, w, h int, b []byte, x, y, n int) {
		p := fuzzPlane(w, h, b)
		right := fuzzRight(p)
		if plane.Right(p) != right || plane.Same(p, clone(p)) != right {
			t.Fatalf("%d by %d, %d numbers isn't %v", w, h, len(b), right)
		}
		pad, crop, turn := plane.Pad(p, x, y), plane.Crop(p, x, y), plane.Turn(p)
		if !right {
			for _, q := range []api.Plane{pad, crop, turn, plane.Add(p, p), plane.Sub(p, p), plane.Clip(p, x, y)} {
				wantNone(t, "of a wrong plane", q)
			}
			if got := plane.At(p, x, y); got != 0 {
				t.Fatalf("%d at %d, %d", got, x, y)
			}
			return
		}
		if got := plane.At(p, x, n); got != at(p, x, n) {
			t.Fatalf("%d at %d, %d", got, x, n)
		}
		may := within(x) && within(y)
		if may && x >= w && y >= h {
			wantPlane(t, "Pad", pad, laid(p, x, y))
			wantPlane(t, "Crop of Pad", plane.Crop(pad, w, h), p)
		} else {
			wantNone(t, "Pad", pad)
		}
		if may && x <= w && y <= h {
			wantPlane(t, "Crop", crop, laid(p, x, y))
		} else {
			wantNone(t, "Crop", crop)
		}
		wantPlane(t, "Turn twice", plane.Turn(turn), p)
		q := plane.Clip(p, n, n)
		wantPlane(t, "Add and Sub", plane.Sub(plane.Add(p, q), q), p)
		for _, v := range q.V {
			if v != n {
				t.Fatalf("%d is clipped to %d", n, v)
			}
		}
	})
}
