package coefs_test

import (
	"bytes"
	"encoding/hex"
	"fmt"
	"math"
	"math/big"
	"slices"
	"strconv"
	"strings"
	"testing"

	"shingle/api"
	"shingle/arith"
	"shingle/bins"
	"shingle/coefs"
	"shingle/near"
	"shingle/quant"
	"shingle/split"
)

const (
	least     = math.MinInt
	greatest  = math.MaxInt
	most      = 1024 // of a side
	mostParts = 64   // across, or down
	mostCode  = 1<<41 - 2
	mostValue = 1 << 42
	contexts  = 22
)

// place of a band.
type place struct{ x, y int }

// sample: what Encode is handed.
type sample struct {
	j         api.Job
	v, parent api.Plane
	shifts    []int
}

// source of numbers for the tests, the same in each run.
type source uint64

func (s *source) next() int {
	*s ^= *s << 13
	*s ^= *s >> 7
	*s ^= *s << 17
	return int(*s)
}

// below a count, not below 0.
func (s *source) below(count int) int {
	return s.next() >> 8 & 0xffffffff % count
}

// one of a list.
func (s *source) one(list ...int) int {
	return list[s.below(len(list))]
}

// yes, half the times.
func (s *source) yes() bool {
	return s.below(2) == 1
}

func seeded(seed int) *source {
	s := source(0x6a09e667f3bcc909 + uint64(seed)*0x9e3779b97f4a7c15)
	return &s
}

func noughts(w, h int) api.Plane {
	return api.Plane{W: w, H: h, V: make([]int, w*h)}
}

// plane of the numbers that are named.
func plane(w, h int, v ...int) api.Plane {
	return api.Plane{W: w, H: h, V: v}
}

// full plane of one number.
func full(w, h, v int) api.Plane {
	return api.Plane{W: w, H: h, V: slices.Repeat([]int{v}, w*h)}
}

// copied plane.
func copied(p api.Plane) api.Plane {
	return api.Plane{W: p.W, H: p.H, V: slices.Clone(p.V)}
}

// The kinds of drawn planes.
const (
	quiet    = iota // mostly noughts
	small           // as of a picture
	wide            // of any length up to 2^39
	anything        // of any length up to 64 bits, and the ends
	kinds
)

// drawn plane of a kind.
func (s *source) drawn(w, h, kind int) api.Plane {
	p := noughts(w, h)
	for i := range p.V {
		switch kind {
		case quiet:
			p.V[i] = s.one(0, 0, 0, 0, 0, 0, 0, 1, -1, 3, -9, 100)
		case small:
			p.V[i] = s.below(601) - 300
		case wide:
			p.V[i] = s.one(1, -1) * (s.next() & (1<<s.below(40) - 1))
		case anything:
			p.V[i] = s.one(least, greatest, mostCode, -mostCode, mostValue, -mostValue, 0, s.next(), s.next()>>20, s.next()>>22, s.next()>>24, s.next()>>50)
		}
	}
	return p
}

// job that is right.
func (s *source) job() api.Job {
	return api.Job{Orient: s.below(4), Q: s.one(0, 1, 2, 3, 4, 60, s.below(61), s.below(61)), Inter: s.yes(), Mean: s.yes(),
		Across: s.one(1, 1, 2, 3, s.below(mostParts)+1), Down: s.one(1, 1, 2, 3, s.below(mostParts)+1), Multi: s.yes()}
}

// someShifts, or none.
func (s *source) someShifts() []int {
	var out []int
	for range s.below(12) {
		out = append(out, s.one(0, 1, -1, 2, -3, 5, -8, 30, -30, 61, -61, mostCode, -mostCode, mostCode+1, -mostCode-1, least, greatest))
	}
	return out
}

// someParent for a band: half as wide and high, the zero plane, one of other sides, or one that isn't right.
func (s *source) someParent(w, h int) api.Plane {
	switch s.below(4) {
	case 0:
		return api.Plane{}
	case 1:
		return s.drawn(s.below(9)+1, s.below(9)+1, quiet)
	case 2:
		return plane(3, 3, 1, 1, 1, 1, 1, 1, 1, 1)
	}
	return s.drawn((w+1)/2, (h+1)/2, quiet)
}

func (s *source) sample() sample {
	v := s.drawn(s.below(12)+1, s.below(12)+1, s.below(kinds))
	return sample{s.job(), v, s.someParent(v.W, v.H), s.someShifts()}
}

// jobs of all kinds.
func jobs() []api.Job {
	var out []api.Job
	for _, parts := range [][2]int{{1, 1}, {2, 1}, {1, 2}, {3, 2}, {16, 9}, {mostParts, mostParts}} {
		for _, q := range []int{0, 1, 7, 24, 60} {
			for flags := range 8 {
				for orient := range 4 {
					out = append(out, api.Job{Orient: orient, Q: q, Inter: flags&1 > 0, Mean: flags&2 > 0, Multi: flags&4 > 0, Across: parts[0], Down: parts[1]})
				}
			}
		}
	}
	return out
}

// The chapter's words, with layers 5, 6, 11, 12 and 13.

// shift of a part.
func (s sample) shift(part int) int {
	if !s.j.Multi || part >= len(s.shifts) || s.shifts[part] > mostCode || s.shifts[part] < -mostCode {
		return 0
	}
	return s.shifts[part]
}

// foretold number at a place that is in r.
func foretold(r api.Plane, x, y int) int {
	at := func(x, y int) int { return r.V[y*r.W+x] }
	if x+y == 0 {
		return 0
	}
	if y == 0 {
		return at(x-1, 0)
	}
	if x == 0 {
		return at(0, y-1)
	}
	sum := big.NewInt(int64(at(x-1, y) + at(x, y-1) + at(x-1, y-1) + 1))
	return int(sum.Div(sum, big.NewInt(3)).Int64()) // of a number above 0 Div goes to the next lower one
}

// placesOf a part.
func placesOf(r api.Rect) []place {
	var out []place
	for y := r.Y; y < r.Y+r.H; y++ {
		for x := r.X; x < r.X+r.W; x++ {
			out = append(out, place{x, y})
		}
	}
	return out
}

// told by Encode: the bytes, and both planes; and how many bits they are.
type told struct {
	bytes        []byte
	coarse, back api.Plane
	bits         int
}

// coarsened band: each number as it is made coarse and comes back. All that it hangs on is above or ahead of it, so it
// is told row by row, whatever its parts are.
func coarsened(s sample) (api.Plane, api.Plane) {
	c, r := noughts(s.v.W, s.v.H), noughts(s.v.W, s.v.H)
	for i, v := range s.v.V {
		x, y := i%s.v.W, i/s.v.W
		q := quant.Clamp(s.j.Q + s.shift(split.Of(s.v.W, s.v.H, s.j.Across, s.j.Down, x, y)))
		mean := 0
		if s.j.Mean {
			mean = foretold(r, x, y)
		}
		c.V[i] = quant.There(quant.Clip(v-mean), q)
		r.V[i] = quant.Clip(quant.Back(c.V[i], q, s.j.Inter) + mean)
	}
	return c, r
}

// encoded by the chapter's words.
func encoded(s sample) told {
	c, r := coarsened(s)
	e := arith.NewEncoder(contexts)
	known := noughts(c.W, c.H)
	for i, part := range split.List(c.W, c.H, s.j.Across, s.j.Down) {
		places := placesOf(part)
		if len(places) == 0 {
			continue
		}
		if s.j.Across*s.j.Down > 1 {
			none := !slices.ContainsFunc(places, func(p place) bool { return c.V[p.y*c.W+p.x] != 0 })
			if e.Put(18, none); none {
				continue
			}
		}
		if s.j.Multi {
			bins.PutSigned(e, near.Shift(), s.shift(i))
		}
		for _, p := range places {
			at := p.y*c.W + p.x
			bins.PutSigned(e, near.Of(known, s.parent, s.j.Orient, p.x, p.y), c.V[at])
			known.V[at] = c.V[at]
		}
	}
	return told{e.Bytes(), c, r, e.Count()}
}

// decoded by the chapter's words: the coarse numbers first, and then how they come back.
func decoded(j api.Job, w, h int, parent api.Plane, b []byte) (api.Plane, api.Plane) {
	d := arith.NewDecoder(b, contexts)
	c, r, quantisers := noughts(w, h), noughts(w, h), noughts(w, h)
	for _, part := range split.List(w, h, j.Across, j.Down) {
		places := placesOf(part)
		if len(places) == 0 || j.Across*j.Down > 1 && d.Get(18) {
			continue
		}
		q := j.Q
		if j.Multi {
			q = quant.Clamp(q + bins.GetSigned(d, near.Shift()))
		}
		for _, p := range places {
			c.V[p.y*w+p.x] = bins.GetSigned(d, near.Of(c, parent, j.Orient, p.x, p.y))
			quantisers.V[p.y*w+p.x] = q
		}
	}
	for i := range r.V {
		r.V[i] = quant.Back(c.V[i], quantisers.V[i], j.Inter)
		if j.Mean {
			r.V[i] += foretold(r, i%w, i/w)
		}
		r.V[i] = quant.Clip(r.V[i])
	}
	return c, r
}

// What the tests want.

func wantPlane(t *testing.T, what string, got api.Plane, w, h int, v []int) {
	t.Helper()
	if got.W != w || got.H != h || !slices.Equal(got.V, v) {
		t.Fatalf("%s: %v, not %d by %d of %v", what, got, w, h, v)
	}
}

// wantEncode of a sample.
func wantEncode(t *testing.T, what string, s sample, b []byte, coarse, back []int) {
	t.Helper()
	got, c, r := coefs.Encode(s.j, s.v, s.parent, s.shifts)
	if !bytes.Equal(got, b) {
		t.Fatalf("%s, %+v: bytes %x, not %x", what, s.j, got, b)
	}
	wantPlane(t, fmt.Sprintf("%s, %+v: Encode's coarse numbers", what, s.j), c, s.v.W, s.v.H, coarse)
	wantPlane(t, fmt.Sprintf("%s, %+v: Encode's numbers as they come back", what, s.j), r, s.v.W, s.v.H, back)
}

// wantDecode of bytes.
func wantDecode(t *testing.T, what string, j api.Job, w, h int, parent api.Plane, b []byte, coarse, back []int) {
	t.Helper()
	c, r := coefs.Decode(j, w, h, parent, b)
	wantPlane(t, fmt.Sprintf("%s, %+v: Decode's coarse numbers of %x", what, j, b), c, w, h, coarse)
	wantPlane(t, fmt.Sprintf("%s, %+v: Decode's numbers as they come back of %x", what, j, b), r, w, h, back)
}

// wantBoth ways.
func wantBoth(t *testing.T, what string, s sample, b []byte, coarse, back []int) {
	t.Helper()
	wantEncode(t, what, s, b, coarse, back)
	wantDecode(t, what, s.j, s.v.W, s.v.H, s.parent, b, coarse, back)
}

// wantByTheWords: both ways, as the chapter's words tell.
func wantByTheWords(t *testing.T, what string, s sample) told {
	t.Helper()
	want := encoded(s)
	wantBoth(t, what, s, want.bytes, want.coarse.V, want.back.V)
	return want
}

// wantDecodeByTheWords of any bytes.
func wantDecodeByTheWords(t *testing.T, what string, j api.Job, w, h int, parent api.Plane, b []byte) {
	t.Helper()
	c, r := decoded(j, w, h, parent, b)
	wantDecode(t, what, j, w, h, parent, b, c.V, r.V)
}

// wantNothing of a band or a job that isn't right.
func wantNothing(t *testing.T, what string, s sample) {
	t.Helper()
	b, c, r := coefs.Encode(s.j, s.v, s.parent, s.shifts)
	if len(b) != 0 {
		t.Errorf("%s: Encode tells %x", what, b)
	}
	wantPlane(t, what+": Encode", c, 0, 0, nil)
	wantPlane(t, what+": Encode", r, 0, 0, nil)
}

// wantNothingDecoded by a job that isn't right.
func wantNothingDecoded(t *testing.T, what string, j api.Job, w, h int) {
	t.Helper()
	for _, b := range [][]byte{nil, {0x80}, []byte("any bytes")} {
		c, r := coefs.Decode(j, w, h, api.Plane{}, b)
		wantPlane(t, what+": Decode", c, 0, 0, nil)
		wantPlane(t, what+": Decode", r, 0, 0, nil)
	}
}

func unhex(t *testing.T, text string) []byte {
	t.Helper()
	b, err := hex.DecodeString(text)
	if err != nil {
		t.Fatal(err)
	}
	return b
}

// spelt bits: "18=1 0=0" is a 1 of context 18, and a 0 of context 0.
func spelt(t *testing.T, text string) []byte {
	t.Helper()
	e := arith.NewEncoder(contexts)
	for _, word := range strings.Fields(text) {
		context, bit, _ := strings.Cut(word, "=")
		n, err := strconv.Atoi(context)
		if err != nil || bit != "0" && bit != "1" || !e.Put(n, bit == "1") {
			t.Fatalf("%q isn't a bit", word)
		}
	}
	return e.Bytes()
}

// P14.1: right jobs.

// wrongSides that no band has.
func wrongSides() []int {
	return []int{0, -1, -2, -most, most + 1, most + 2, 1 << 31, 1 << 32, 1<<32 + 1, 1<<53 + 4, 1 << 62, -1 << 32, 1 - 1<<32, least, least + 1, greatest - 1, greatest}
}

// wrongCounts of parts.
func wrongCounts() []int {
	return append(wrongSides(), mostParts+1, mostParts+2, most)
}

func wrongQuantisers() []int {
	return []int{-1, -2, -60, -61, 61, 62, 120, 256, 1 << 32, 1<<32 + 5, -1 << 32, least, least + 1, greatest - 1, greatest}
}

func wrongOrients() []int {
	return []int{-1, -2, -3, -4, 4, 5, 8, 256, 1 << 32, 1<<32 + 1, -1 << 32, least, least + 1, greatest - 1, greatest}
}

// fewRight jobs.
func fewRight() []api.Job {
	return []api.Job{
		{Across: 1, Down: 1},
		{Orient: 3, Q: 60, Inter: true, Mean: true, Across: mostParts, Down: mostParts, Multi: true},
		{Orient: 1, Q: 12, Inter: true, Across: 2, Down: 3},
		{Orient: 2, Q: 31, Mean: true, Across: mostParts, Down: 1, Multi: true},
	}
}

// wrongJobs: one number of a right one is wrong, or several.
func wrongJobs() []api.Job {
	out := []api.Job{{}, {Q: 61, Orient: 4, Across: 65, Down: 65}, {Q: -1, Orient: -1, Across: -1, Down: -1}}
	for _, right := range fewRight() {
		with := func(change func(j *api.Job)) {
			j := right
			change(&j)
			out = append(out, j)
		}
		for _, n := range wrongCounts() {
			with(func(j *api.Job) { j.Across = n })
			with(func(j *api.Job) { j.Down = n })
			with(func(j *api.Job) { j.Across, j.Down = n, n })
		}
		for _, q := range wrongQuantisers() {
			with(func(j *api.Job) { j.Q = q })
		}
		for _, o := range wrongOrients() {
			with(func(j *api.Job) { j.Orient = o })
		}
	}
	return out
}

func wantRight(t *testing.T, j api.Job, w, h int, want bool) {
	t.Helper()
	if got := coefs.Right(j, w, h); got != want {
		t.Errorf("%+v of %d by %d: %v", j, w, h, got)
	}
}

func TestRightJobs(t *testing.T) {
	sides := []int{1, 2, 3, 63, 64, 65, 1000, most - 1, most}
	for _, j := range append(fewRight(), jobs()...) {
		for _, w := range sides {
			wantRight(t, j, w, 1, true)
			wantRight(t, j, 1, w, true)
			wantRight(t, j, w, most, true)
			wantRight(t, j, most, w, true)
		}
	}
	for q := range 61 {
		wantRight(t, api.Job{Q: q, Across: 1, Down: 1}, 4, 4, true)
	}
	for n := 1; n <= mostParts; n++ {
		wantRight(t, api.Job{Across: n, Down: 1}, 4, 4, true)
		wantRight(t, api.Job{Across: 1, Down: n}, 4, 4, true)
	}
}

func TestJobsThatAreNotRight(t *testing.T) {
	for _, j := range wrongJobs() {
		for _, w := range []int{1, 4, 64, most} {
			for _, h := range []int{1, 4, 64, most} {
				wantRight(t, j, w, h, false)
			}
		}
	}
	for _, j := range fewRight() {
		for _, n := range wrongSides() {
			for _, side := range []int{1, 8, most, n} {
				wantRight(t, j, n, side, false)
				wantRight(t, j, side, n, false)
			}
		}
	}
}

// P14.1: nothing is told where v or the job isn't right.

// wrongPlanes by name.
func wrongPlanes() map[string]api.Plane {
	out := map[string]api.Plane{"zero": {}, "room alone": {W: 2, H: 2, V: make([]int, 4)[:0]}}
	for name, s := range map[string][3]int{ // W, H, how many numbers
		"numbers without sides": {0, 0, 4},
		"without numbers":       {2, 2, 0},
		"one too few":           {2, 2, 3},
		"one too many":          {2, 2, 5},
		"none wide":             {0, 3, 3},
		"none high":             {3, 0, 3},
		"both below 0":          {-2, -2, 4},
		"one too wide":          {most + 1, 2, 2 * (most + 1)},
		"one too high":          {2, most + 1, 2 * (most + 1)},
		"wraps to 0":            {1 << 32, 1 << 32, 0},
		"wraps to 8":            {1<<61 + 1, 8, 8},
		"wraps to 1":            {greatest, greatest, 1},
		"least by least":        {least, least, 0},
		"least wide":            {least, 1, 1},
		"greatest high":         {1, greatest, 1},
	} {
		out[name] = api.Plane{W: s[0], H: s[1], V: slices.Repeat([]int{7}, s[2])}
	}
	return out
}

func TestNothingOfPlanesThatAreNotRight(t *testing.T) {
	for name, v := range wrongPlanes() {
		for _, j := range append(fewRight(), jobs()[:40]...) {
			wantNothing(t, name, sample{j, v, api.Plane{}, nil})
			wantNothing(t, name, sample{j, v, full(2, 2, 1), []int{1, 2, 3}})
			wantNothing(t, name, sample{j, v, v, []int{1}})
		}
	}
}

func TestNothingOfJobsThatAreNotRight(t *testing.T) {
	for _, j := range wrongJobs() {
		what := fmt.Sprintf("%+v", j)
		wantNothing(t, what, sample{j, full(4, 3, 5), api.Plane{}, nil})
		wantNothing(t, what, sample{j, noughts(1, 1), full(1, 1, 1), []int{1}})
		wantNothingDecoded(t, what, j, 4, 3)
		wantNothingDecoded(t, what, j, 1, 1)
		wantNothingDecoded(t, what, j, most, most)
	}
}

func TestNothingIsDecodedOfSidesThatAreNotRight(t *testing.T) {
	for _, j := range fewRight() {
		for _, n := range wrongSides() {
			for _, side := range []int{1, 8, most, n} {
				wantNothingDecoded(t, fmt.Sprint(n, " by ", side), j, n, side)
				wantNothingDecoded(t, fmt.Sprint(side, " by ", n), j, side, n)
			}
		}
	}
}

// P14.1: the bits.

func TestTheChaptersExample(t *testing.T) {
	for q := range 61 {
		for orient := range 4 {
			for flags := range 4 {
				j := api.Job{Q: q, Orient: orient, Inter: flags&1 > 0, Mean: flags&2 > 0, Across: 1, Down: 1}
				wantBoth(t, "a nought", sample{j, noughts(1, 1), api.Plane{}, nil}, []byte{0x80}, []int{0}, []int{0})
			}
		}
	}
}

// parted job: of so many parts, by the quantiser 0.
func parted(across, down int, multi bool) api.Job {
	return api.Job{Across: across, Down: down, Multi: multi}
}

func TestBitsThatWereWorkedOut(t *testing.T) {
	one, several := parted(1, 1, false), parted(2, 1, false)
	for _, c := range []struct {
		name   string
		s      sample
		bits   string
		coarse []int
	}{
		{"one part has no bit of its own", sample{one, plane(1, 1, 1), api.Plane{}, nil}, "0=0 17=0 2=1 14=0", []int{1}},
		{"below 0", sample{one, plane(1, 1, -2), api.Plane{}, nil}, "0=0 17=1 2=1 14=1", []int{-2}},
		{"one part of noughts", sample{one, noughts(2, 2), api.Plane{}, nil}, "0=1 0=1 0=1 0=1", []int{0, 0, 0, 0}},
		{"by those beside", sample{one, plane(2, 2, 1, 0, -1, 2), api.Plane{}, nil},
			"0=0 17=0 2=1 14=0  1=1  1=0 17=0 2=1 14=1  1=0 17=1 2=1 14=0", []int{1, 0, -1, 2}},
		{"high across: by the sign above", sample{api.Job{Orient: 1, Across: 1, Down: 1}, plane(2, 2, 1, -3, -1, 2), api.Plane{}, nil},
			"0=0 17=0 2=1 14=0  1=0 17=0 2=0 17=0 3=1 14=1  1=0 17=0 2=1 15=1  1=0 17=1 2=1 16=0", []int{1, -3, -1, 2}},
		{"high down: by the sign ahead", sample{api.Job{Orient: 2, Across: 1, Down: 1}, plane(2, 2, 1, -3, -1, 2), api.Plane{}, nil},
			"0=0 17=0 2=1 14=0  1=0 17=0 2=0 17=0 3=1 15=1  1=0 17=0 2=1 14=1  1=0 17=1 2=1 16=0", []int{1, -3, -1, 2}},
		{"high both: by none", sample{api.Job{Orient: 3, Across: 1, Down: 1}, plane(2, 1, -1, -1), api.Plane{}, nil},
			"0=0 17=0 2=1 14=1  1=0 17=0 2=1 14=1", []int{-1, -1}},
		{"by a parent", sample{one, plane(2, 1, 4, 0), full(1, 1, -7), nil}, "7=0 17=0 9=0 17=1 10=1 14=0  8=1", []int{4, 0}},
		{"by a parent of a nought", sample{one, plane(2, 1, 4, 0), noughts(1, 1), nil}, "0=0 17=0 2=0 17=1 3=1 14=0  1=1", []int{4, 0}},
		{"a parent of some places", sample{one, noughts(4, 1), plane(2, 1, 0, 3), nil}, "0=1 0=1 7=1 7=1", []int{0, 0, 0, 0}},
		{"a part that is left out, and one that isn't", sample{several, plane(2, 1, 0, 3), api.Plane{}, nil},
			"18=1  18=0 0=0 17=0 2=0 17=0 3=1 14=0", []int{0, 3}},
		{"parts of places beside each other", sample{several, plane(2, 1, -1, 3), api.Plane{}, nil},
			"18=0 0=0 17=0 2=1 14=1  18=0 1=0 17=0 2=0 17=0 3=1 14=0", []int{-1, 3}},
		{"part by part, not row by row", sample{several, plane(4, 2, 1, 0, 0, 0, 0, 0, 0, 2), api.Plane{}, nil},
			"18=0 0=0 17=0 2=1 14=0 1=1 1=1 1=1  18=0 0=1 0=1 0=1 0=0 17=1 2=1 14=0", []int{1, 0, 0, 0, 0, 0, 0, 2}},
		{"all parts are left out", sample{parted(2, 2, true), noughts(2, 2), api.Plane{}, []int{1, 2, 3, 4}}, "18=1 18=1 18=1 18=1", []int{0, 0, 0, 0}},
		{"empty parts have no bits", sample{parted(3, 1, false), noughts(1, 1), api.Plane{}, nil}, "18=1", []int{0}},
		{"empty parts count as parts", sample{parted(1, 2, false), plane(1, 1, 1), api.Plane{}, nil}, "18=0 0=0 17=0 2=1 14=0", []int{1}},
		{"empty ones on all sides", sample{parted(64, 64, true), plane(1, 1, -1), api.Plane{}, nil}, "18=0 19=1 0=0 17=0 2=1 14=1", []int{-1}},
		{"one part's shift", sample{parted(1, 1, true), plane(1, 1, 0), api.Plane{}, nil}, "19=1 0=1", []int{0}},
		{"one part's shift, below 0", sample{parted(1, 1, true), plane(1, 1, 0), api.Plane{}, []int{-1}}, "19=0 20=0 19=1 21=1 0=1", []int{0}},
		{"one part's shift, above 0", sample{parted(1, 1, true), plane(1, 1, 21), api.Plane{}, []int{4}},
			"19=0 20=0 19=0 20=1 19=1 21=0  0=0 17=0 2=0 17=1 3=0 17=1 4=1 14=0", []int{10}},
		{"no shift of what is left out", sample{parted(2, 1, true), plane(2, 1, 0, 3), api.Plane{}, []int{5, 2}},
			"18=1  18=0 19=0 20=1 19=1 21=0 0=0 17=1 2=1 14=0", []int{0, 2}},
		{"no shift without Multi", sample{several, plane(2, 1, 0, 3), api.Plane{}, []int{5, 2}}, "18=1  18=0 0=0 17=0 2=0 17=0 3=1 14=0", []int{0, 3}},
		{"shifts by the parts' numbers, the empty ones' too", sample{parted(5, 1, true), plane(3, 1, 1, 2, 9), api.Plane{}, []int{9, 0, 9, -1, 4}},
			"18=0 19=1 0=0 17=0 2=1 14=0  18=0 19=0 20=0 19=1 21=1 1=0 17=1 2=1 14=0  18=0 19=0 20=0 19=0 20=1 19=1 21=0 1=0 17=0 2=0 17=1 3=1 14=0", []int{1, 2, 4}},
	} {
		got, coarse, back := coefs.Encode(c.s.j, c.s.v, c.s.parent, c.s.shifts)
		if want := spelt(t, c.bits); !bytes.Equal(got, want) {
			t.Errorf("%s: %x, not %x", c.name, got, want)
		}
		wantPlane(t, c.name, coarse, c.s.v.W, c.s.v.H, c.coarse)
		wantDecode(t, c.name, c.s.j, c.s.v.W, c.s.v.H, c.s.parent, spelt(t, c.bits), c.coarse, back.V)
	}
}

func TestBytesThatWereWorkedOut(t *testing.T) {
	for _, c := range workedOut() {
		wantBoth(t, c.name, sample{c.j, c.v, c.parent, c.shifts}, unhex(t, c.hex), c.coarse, c.back)
	}
}

func TestLongBytesThatWereWorkedOut(t *testing.T) {
	for _, c := range longOnes() {
		v := longBand()
		b, coarse, back := coefs.Encode(c.j, v, c.parent, c.shifts)
		if got := hex.EncodeToString(b); got != c.hex {
			t.Errorf("%s: %s, not %s", c.name, got, c.hex)
		}
		if got := checked(coarse.V, back.V); got != c.check {
			t.Errorf("%s: the numbers come to %d, not %d", c.name, got, c.check)
		}
		wantDecode(t, c.name, c.j, v.W, v.H, c.parent, unhex(t, c.hex), coarse.V, back.V)
	}
}

func TestAllKindsByTheChaptersWords(t *testing.T) {
	s := seeded(1)
	for i, j := range jobs() {
		w, h := s.below(9)+1, s.below(9)+1
		for kind := range kinds {
			wantByTheWords(t, fmt.Sprint("job ", i, ", kind ", kind), sample{j, s.drawn(w, h, kind), s.someParent(w, h), s.someShifts()})
		}
	}
}

func TestSidesAndPartsByTheChaptersWords(t *testing.T) {
	s := seeded(2)
	for _, side := range [][2]int{{1, 1}, {1, 9}, {9, 1}, {64, 3}, {63, 5}, {65, 4}, {3, 130}, {32, 32}, {most, 1}, {1, most}} {
		for _, across := range []int{1, 2, 7, 63, mostParts} {
			for _, down := range []int{1, 3, mostParts} {
				j := s.job()
				j.Across, j.Down = across, down
				wantByTheWords(t, fmt.Sprint(side), sample{j, s.drawn(side[0], side[1], s.below(kinds)), s.someParent(side[0], side[1]), s.someShifts()})
			}
		}
	}
}

func TestEncodeAtTheGreatestSides(t *testing.T) {
	v := noughts(most, most)
	v.V[0], v.V[most*most-1] = 5, -6
	for _, parts := range []int{1, mostParts} { // factor 7, offset 4: 5 comes back as (14 + 4 + 2) / 4
		j := api.Job{Orient: 1, Q: 3, Mean: true, Across: parts, Down: parts}
		b, c, r := coefs.Encode(j, v, api.Plane{}, nil)
		if len(b) == 0 || c.V[0] != 2 || r.V[0] != 5 || len(c.V) != most*most || len(r.V) != most*most {
			t.Errorf("%d parts: %d bytes, %d, %d", parts, len(b), c.V[0], r.V[0])
		}
		wantDecode(t, "the greatest", j, most, most, api.Plane{}, b, c.V, r.V)
	}
}

// P14.1: parts that are left out.

func TestPartsOfNoughtsAreLeftOut(t *testing.T) {
	for _, multi := range []bool{false, true} {
		for _, mean := range []bool{false, true} {
			j := api.Job{Q: 20, Mean: mean, Across: 4, Down: 3, Multi: multi}
			skipped := encoded(sample{j, noughts(16, 12), api.Plane{}, nil})
			if skipped.bits != 12 {
				t.Fatalf("%d bits of 12 parts of noughts", skipped.bits)
			}
			for _, v := range []int{0, 1, -1, 31, -31} { // factor 128: up to 31 all is 0
				wantBoth(t, "left out", sample{j, full(16, 12, v), full(8, 6, 1), nil}, skipped.bytes, make([]int, 192), make([]int, 192))
			}
			for part, r := range split.List(16, 12, 4, 3) {
				v := noughts(16, 12)
				v.V[(r.Y+r.H-1)*16+r.X+r.W-1] = 32 // the last place of one part alone
				wantByTheWords(t, fmt.Sprint("all but ", part), sample{j, v, api.Plane{}, nil})
			}
		}
	}
}

// A part that is left out comes back as it is foretold by the parts ahead of it.
func TestWhatIsLeftOutIsForetold(t *testing.T) {
	j := api.Job{Q: 20, Mean: true, Across: 2, Down: 2}
	v := plane(4, 4, 3200, 3200, 3200, 3200, 3200, 3200, 3200, 3200, 3200, 3200, 3200, 3200, 3200, 3200, 3200, 3200)
	// 3200 by the factor 128: 100, which comes back as (12800 + 64 + 2) / 4. All others are near enough to that.
	coarse := []int{100, 0, 0, 0, 0, 0, 0, 0, 0, 0, 0, 0, 0, 0, 0, 0}
	wantBoth(t, "foretold", sample{j, v, api.Plane{}, nil},
		spelt(t, "18=0 0=0 17=1 2=0 17=0 3=0 17=0 4=0 17=1 5=0 17=0 6=0 17=1 6=1 14=0 1=1 1=1 1=1 18=1 18=1 18=1"), coarse, slices.Repeat([]int{3216}, 16))
}

// P14.1: shifts.

func TestShifts(t *testing.T) {
	s := seeded(3)
	shifts := []int{0, 1, -1, 2, -2, 3, -3, 7, -7, 20, -20, 30, -30, 59, -59, 60, -60, 61, -61, 120, 1000, -1000, 1 << 32, -1 << 32, mostCode - 1, 1 - mostCode, mostCode, -mostCode}
	for _, shift := range shifts {
		for _, q := range []int{0, 1, 30, 59, 60} {
			for _, parts := range [][2]int{{1, 1}, {2, 2}, {9, 8}} {
				j := api.Job{Q: q, Across: parts[0], Down: parts[1], Multi: true, Mean: s.yes(), Inter: s.yes()}
				v := s.drawn(6, 5, wide)
				all := slices.Repeat([]int{shift}, parts[0]*parts[1])
				got := wantByTheWords(t, fmt.Sprint("shift ", shift), sample{j, v, api.Plane{}, all})
				plain := j
				plain.Q, plain.Multi = max(0, min(q+shift, 60)), false
				as := encoded(sample{plain, v, api.Plane{}, nil})
				wantPlane(t, "coarse, by a quantiser", got.coarse, 6, 5, as.coarse.V)
				wantPlane(t, "back, by a quantiser", got.back, 6, 5, as.back.V)
			}
		}
	}
}

func TestShiftsForSomePartsAndForMore(t *testing.T) {
	s := seeded(4)
	all := []int{3, -2, 9, 0, -30, 60}
	j := api.Job{Q: 14, Across: 3, Down: 2, Multi: true, Mean: true, Orient: 2}
	for range 20 {
		v := s.drawn(9, 7, small)
		for count := range len(all) + 1 {
			filled := append(slices.Clone(all[:count]), make([]int, len(all)-count)...)
			want := encoded(sample{j, v, api.Plane{}, filled})
			wantBoth(t, "some", sample{j, v, api.Plane{}, all[:count]}, want.bytes, want.coarse.V, want.back.V)
			more := append(filled, 7, -7, least, greatest, 0)
			wantBoth(t, "more", sample{j, v, api.Plane{}, more}, want.bytes, want.coarse.V, want.back.V)
		}
	}
}

func TestShiftsThatAreNoNumbersCountAsNought(t *testing.T) {
	s := seeded(5)
	for _, shift := range []int{mostCode + 1, mostCode + 2, -mostCode - 1, -mostCode - 2, 1 << 41, -1 << 41, 1 << 42, 1 << 62, -1 << 62, least, least + 1, greatest - 1, greatest} {
		for _, parts := range [][2]int{{1, 1}, {2, 1}, {7, 7}} {
			for _, q := range []int{0, 10, 60} {
				j := api.Job{Q: q, Across: parts[0], Down: parts[1], Multi: true}
				v := s.drawn(5, 4, small)
				want := encoded(sample{j, v, api.Plane{}, nil})
				all := slices.Repeat([]int{shift}, parts[0]*parts[1])
				wantBoth(t, fmt.Sprint("shift ", shift), sample{j, v, api.Plane{}, all}, want.bytes, want.coarse.V, want.back.V)
			}
		}
	}
}

// The greatest shifts have forty digits, and no end.
func TestGreatestShiftsThatAreCoded(t *testing.T) {
	digits := strings.Repeat("19=0 20=1 ", 40)
	j := parted(1, 1, true)
	wantBoth(t, "above", sample{j, plane(1, 1, 1<<17), api.Plane{}, []int{mostCode}},
		spelt(t, digits+"21=0 0=0 17=0 2=0 17=1 3=1 14=0"), []int{4}, []int{4*131072/4 + (65536+2)/4})
	j.Q = 60
	wantBoth(t, "below", sample{j, plane(1, 1, 5), api.Plane{}, []int{-mostCode}}, spelt(t, digits+"21=1 0=0 17=1 2=0 17=0 3=1 14=0"), []int{5}, []int{5})
}

func TestShiftsCountForNothingWithoutMulti(t *testing.T) {
	s := seeded(6)
	for _, parts := range [][2]int{{1, 1}, {3, 2}} {
		j := api.Job{Q: 11, Across: parts[0], Down: parts[1], Mean: true}
		v := s.drawn(8, 8, small)
		want := encoded(sample{j, v, api.Plane{}, nil})
		wantBoth(t, "without Multi", sample{j, v, api.Plane{}, []int{40, -40, 3, -3, 1, 9}}, want.bytes, want.coarse.V, want.back.V)
	}
}

// P14.1: parents.

func TestParents(t *testing.T) {
	s := seeded(7)
	for i := range 40 {
		v := s.drawn(10, 6, i%2)
		parents := map[string]api.Plane{"zero": {}, "half": s.drawn(5, 3, quiet), "noughts": noughts(5, 3), "all above 0": full(5, 3, greatest), "all below 0": full(5, 3, least),
			"narrower": s.drawn(2, 3, quiet), "lower": s.drawn(5, 1, quiet), "greater": s.drawn(9, 9, quiet), "as great": s.drawn(10, 6, quiet), "one": full(1, 1, 2), "the greatest": full(most, 1, 1)}
		for name, p := range parents {
			j := s.job()
			wantByTheWords(t, name, sample{j, v, p, s.someShifts()})
		}
	}
}

func TestWrongAndMissingParentsAreOfNoughts(t *testing.T) {
	s := seeded(8)
	for range 10 {
		j, v := s.job(), s.drawn(7, 7, small)
		want := encoded(sample{j, v, noughts(4, 4), nil})
		for name, p := range wrongPlanes() {
			wantBoth(t, name, sample{j, v, p, nil}, want.bytes, want.coarse.V, want.back.V)
		}
		wantBoth(t, "a nought", sample{j, v, noughts(1, 1), nil}, want.bytes, want.coarse.V, want.back.V)
	}
}

// P14.1: what is made coarse, and how it comes back.

func TestMeanForetells(t *testing.T) {
	j := api.Job{Mean: true, Across: 1, Down: 1}
	v := plane(3, 3, 10, 12, 9, 7, 10, 11, -20, -20, -20)
	// foretold: 0 10 12; 10 (7+12+10+1)/3 (10+9+12+1)/3; 7 (-20+10+7+1)/3 (-20+11+10+1)/3
	coarse := []int{10, 2, -3, -3, 0, 1, -27, -19, -20}
	b, c, r := coefs.Encode(j, v, api.Plane{}, nil)
	wantPlane(t, "coarse", c, 3, 3, coarse)
	wantPlane(t, "back", r, 3, 3, v.V)
	wantDecode(t, "foretold", j, 3, 3, api.Plane{}, b, coarse, v.V)
	// By the factor 32 the number c comes back as (32 c + 16 + 2) / 4, and is foretold by what comes back.
	j.Q = 12
	b, c, r = coefs.Encode(j, plane(4, 1, 100, 120, 90, 300), api.Plane{}, nil)
	wantPlane(t, "coarse", c, 4, 1, []int{12, 2, -3, 26})
	wantPlane(t, "back", r, 4, 1, []int{100, 120, 92, 304})
	wantDecode(t, "foretold", j, 4, 1, api.Plane{}, b, c.V, r.V)
	// By others: as (32 c + 12 + 2) / 4.
	j.Inter = true
	b, c, r = coefs.Encode(j, plane(4, 1, 100, 120, 90, 300), api.Plane{}, nil)
	wantPlane(t, "coarse, by others", c, 4, 1, []int{12, 2, -3, 26})
	wantPlane(t, "back, by others", r, 4, 1, []int{99, 118, 91, 302})
	wantDecode(t, "foretold, by others", j, 4, 1, api.Plane{}, b, c.V, r.V)
}

func TestNumbersAtAndBeyondTheClip(t *testing.T) {
	ends := []int{1 << 39, 1 << 40, mostCode - 1, mostCode, mostCode + 1, 1 << 41, mostValue - 1, mostValue, mostValue + 1, 1 << 43, 1 << 62, greatest - 1, greatest}
	for _, v := range ends {
		in := min(v, mostCode)
		for _, q := range []int{0, 4, 12, 60} {
			factor := 4 << (q / 4)
			offset := factor / 2
			if q == 0 {
				offset = 1
			}
			c := in * 4 / factor
			back := min(mostValue, (c*factor+offset+2)/4)
			j := api.Job{Q: q, Across: 1, Down: 1}
			for _, sign := range []int{1, -1} {
				got, coarse, r := coefs.Encode(j, plane(1, 1, sign*v), api.Plane{}, nil)
				wantPlane(t, "coarse", coarse, 1, 1, []int{sign * c})
				wantPlane(t, "back", r, 1, 1, []int{sign * back})
				wantDecode(t, "beyond", j, 1, 1, api.Plane{}, got, []int{sign * c}, []int{sign * back})
			}
		}
	}
	_, coarse, r := coefs.Encode(parted(1, 1, false), plane(2, 1, least, least+1), api.Plane{}, nil)
	wantPlane(t, "the least", coarse, 2, 1, []int{-mostCode, -mostCode})
	wantPlane(t, "the least", r, 2, 1, []int{-mostCode, -mostCode})
}

// What is foretold and what is coded may come to more together than comes back.
func TestSumsAtTheClip(t *testing.T) {
	j := api.Job{Mean: true, Across: 1, Down: 1}
	for _, sign := range []int{1, -1} {
		v := full(5, 1, sign<<61)
		back := []int{sign * mostCode, sign * 2 * mostCode, sign * mostValue, sign * mostValue, sign * mostValue}
		b, c, r := coefs.Encode(j, v, api.Plane{}, nil)
		wantPlane(t, "coarse", c, 5, 1, slices.Repeat([]int{sign * mostCode}, 5))
		wantPlane(t, "back", r, 5, 1, back)
		wantDecode(t, "sums", j, 5, 1, api.Plane{}, b, c.V, back)
		_, _, r = coefs.Encode(j, full(1, 5, sign<<61), api.Plane{}, nil)
		wantPlane(t, "down", r, 1, 5, back)
	}
	for kind := range 300 {
		s := seeded(900 + kind)
		k := s.job()
		k.Mean = true
		wantByTheWords(t, "sums", sample{k, s.drawn(6, 6, anything), api.Plane{}, s.someShifts()})
	}
}

// P14.2: what bytes mean.

func TestNumbersThatWereWorkedOut(t *testing.T) {
	for _, c := range toldOfBytes() {
		wantDecode(t, c.name, c.j, c.w, c.h, c.parent, unhex(t, c.hex), c.coarse, c.back)
	}
}

func TestDecodeOfNoBytes(t *testing.T) {
	s := seeded(10)
	for i, j := range jobs() {
		w, h := s.below(4)+1, s.below(4)+1
		wantDecodeByTheWords(t, fmt.Sprint("job ", i), j, w, h, s.someParent(w, h), nil)
	}
	for _, sides := range [][2]int{{1, 1}, {most, 1}, {1, most}, {64, 64}} {
		for _, j := range []api.Job{parted(1, 1, false), parted(3, 3, true)} {
			wantDecodeByTheWords(t, "sides", j, sides[0], sides[1], api.Plane{}, []byte{})
		}
	}
}

func TestDecodeOfAnyBytes(t *testing.T) {
	s := seeded(11)
	for i := range 1500 {
		j, w, h := s.job(), s.below(10)+1, s.below(10)+1
		b := make([]byte, s.below(50))
		for k := range b {
			b[k] = byte(s.one(0, 255, 0x80, s.next(), s.next(), s.next()))
		}
		wantDecodeByTheWords(t, fmt.Sprint("bytes ", i), j, w, h, s.someParent(w, h), b)
	}
}

func TestDecodeOfBytesThatAreCutOffOrGoOn(t *testing.T) {
	s := seeded(12)
	for i := range 60 {
		a := s.sample()
		b, c, r := coefs.Encode(a.j, a.v, a.parent, a.shifts)
		for count := 0; count <= len(b); count += 1 + len(b)/12 {
			wantDecodeByTheWords(t, fmt.Sprint("cut off ", i), a.j, a.v.W, a.v.H, a.parent, b[:count])
		}
		wantDecode(t, "noughts behind", a.j, a.v.W, a.v.H, a.parent, append(slices.Clone(b), 0, 0, 0, 0, 0), c.V, r.V)
		for _, more := range []string{"\x01", "\x80", "\xff\xff\xff\xff", "more of it"} {
			wantDecodeByTheWords(t, fmt.Sprint("goes on ", i), a.j, a.v.W, a.v.H, a.parent, append(slices.Clone(b), more...))
		}
	}
}

func TestDecodeAtTheGreatestSides(t *testing.T) {
	j := api.Job{Across: mostParts, Down: mostParts}
	ones := bytes.Repeat([]byte{255}, 1000)
	wantDecode(t, "left out", j, most, most, api.Plane{}, ones, make([]int, most*most), make([]int, most*most))
	for _, s := range [][2]int{{most, 3}, {3, most}} {
		wantDecodeByTheWords(t, "long", api.Job{Q: 5, Mean: true, Across: 7, Down: 7, Multi: true}, s[0], s[1], full(most, 1, 1), []byte("some bytes that aren't many"))
	}
}

// P14.3: what foretells.

func TestMeanThatWasWorkedOut(t *testing.T) {
	r := plane(3, 3, 9, 4, -7, 2, 0, 0, -8, -5, 100)
	for y, row := range [][]int{{0, 9, 4}, {9, 5, -1}, {2, -2, -2}} {
		for x, want := range row {
			if got := coefs.Mean(r, x, y); got != want {
				t.Errorf("%d, %d: %d, not %d", x, y, got, want)
			}
		}
	}
	for sum, want := range map[int]int{0: 0, 1: 0, 2: 1, 3: 1, 4: 1, 5: 2, -1: 0, -2: -1, -3: -1, -4: -1, -5: -2, -6: -2, -7: -2, -8: -3, 300: 100, -300: -100, -301: -100, -302: -101} {
		for _, p := range []api.Plane{plane(2, 2, sum, 0, 0, 77), plane(2, 2, 0, sum, 0, 77), plane(2, 2, 0, 0, sum, -77), plane(2, 2, 5, sum-9, 4, 0)} {
			if got := coefs.Mean(p, 1, 1); got != want {
				t.Errorf("%v: %d, not %d", p.V, got, want)
			}
		}
	}
}

// wantMean at each place of r, and nought about it.
func wantMean(t *testing.T, r api.Plane) {
	t.Helper()
	for y := range r.H {
		for x := range r.W {
			if got, want := coefs.Mean(r, x, y), foretold(r, x, y); got != want {
				t.Fatalf("%d by %d: %d, %d: %d, not %d", r.W, r.H, x, y, got, want)
			}
		}
	}
	for _, x := range []int{least, least + 1, -1 << 32, -r.W, -2, -1, r.W, r.W + 1, 1 << 32, greatest - 1, greatest} {
		for _, y := range []int{least, -1 << 32, -1, 0, r.H - 1, r.H, r.H + 1, 1 << 32, greatest} {
			wantNoMean(t, r, x, y)
		}
		wantNoMean(t, r, 0, x-r.W+r.H)
	}
	for _, y := range []int{least, -1 << 32, -2, -1, r.H, r.H + 1, 1 << 32, greatest} {
		for _, x := range []int{0, 1, r.W / 2, r.W - 1} {
			wantNoMean(t, r, x, y)
		}
	}
}

func wantNoMean(t *testing.T, r api.Plane, x, y int) {
	t.Helper()
	if x >= 0 && x < r.W && y >= 0 && y < r.H {
		return
	}
	if got := coefs.Mean(r, x, y); got != 0 {
		t.Fatalf("%d by %d: %d, %d is without: %d", r.W, r.H, x, y, got)
	}
}

func TestMeanAtAllPlaces(t *testing.T) {
	s := seeded(20)
	for _, sides := range [][2]int{{1, 1}, {2, 1}, {1, 2}, {2, 2}, {9, 1}, {1, 9}, {5, 7}, {12, 8}, {most, 2}, {2, most}} {
		for kind := range kinds {
			wantMean(t, s.drawn(sides[0], sides[1], kind))
		}
		wantMean(t, full(sides[0], sides[1], 5))
		wantMean(t, full(sides[0], sides[1], least))
		wantMean(t, full(sides[0], sides[1], greatest))
	}
}

// Neither the number at a place nor those that are told behind it foretell it.
func TestMeanKnowsNothingAhead(t *testing.T) {
	r := plane(3, 3, 3, 6, 50, 12, 60, 70, 80, 90, 99)
	if got := coefs.Mean(r, 1, 1); got != 7 {
		t.Errorf("%d, not 7", got)
	}
	for i := range r.V {
		if i == 0 || i == 1 || i == 3 {
			continue
		}
		changed := copied(r)
		changed.V[i] = -1000
		if got := coefs.Mean(changed, 1, 1); got != 7 {
			t.Errorf("the number %d counts: %d", i, got)
		}
	}
}

func TestMeanOfPlanesThatAreNotRight(t *testing.T) {
	for name, r := range wrongPlanes() {
		for _, x := range []int{least, -1, 0, 1, 2, 3, most, greatest} {
			for _, y := range []int{least, -1, 0, 1, 2, 3, most, greatest} {
				if got := coefs.Mean(r, x, y); got != 0 {
					t.Errorf("%s: %d, %d: %d", name, x, y, got)
				}
			}
		}
	}
}

// P14.4: both ways, and without loss.

func TestWhatIsEncodedIsDecoded(t *testing.T) {
	s := seeded(30)
	for i := range 4000 {
		a := s.sample()
		b, c, r := coefs.Encode(a.j, a.v, a.parent, a.shifts)
		wantDecode(t, fmt.Sprint("sample ", i), a.j, a.v.W, a.v.H, a.parent, b, c.V, r.V)
	}
}

func TestWithoutLoss(t *testing.T) {
	s := seeded(31)
	ends := []int{1 << 39, -1 << 39, 1<<39 - 1, 1 - 1<<39}
	for i, j := range jobs() {
		j.Q = 0
		w, h := s.below(9)+1, s.below(9)+1
		edge := noughts(w, h)
		for k := range edge.V {
			edge.V[k] = s.one(ends...)
		}
		for _, v := range []api.Plane{s.drawn(w, h, quiet), s.drawn(w, h, small), s.drawn(w, h, wide), edge, full(w, h, ends[i%4])} {
			b, c, r := coefs.Encode(j, v, s.someParent(w, h), nil)
			wantPlane(t, fmt.Sprintf("%+v: without loss", j), r, w, h, v.V)
			if !j.Mean {
				wantPlane(t, fmt.Sprintf("%+v: coarse", j), c, w, h, v.V)
			}
			if len(b) == 0 && slices.ContainsFunc(v.V, func(n int) bool { return n != 0 }) {
				t.Errorf("%+v: no bytes", j)
			}
		}
	}
}

func TestDecodedWithoutLoss(t *testing.T) {
	s := seeded(32)
	for i := range 500 {
		a := s.sample()
		a.j.Q, a.shifts = 0, nil
		a.v = s.drawn(a.v.W, a.v.H, wide)
		b, _, _ := coefs.Encode(a.j, a.v, a.parent, nil)
		_, r := coefs.Decode(a.j, a.v.W, a.v.H, a.parent, b)
		wantPlane(t, fmt.Sprintf("%d, %+v", i, a.j), r, a.v.W, a.v.H, a.v.V)
	}
}

// What is handed in, and what is answered.

func TestWhatIsHandedInStaysAsItWas(t *testing.T) {
	s := seeded(40)
	for range 200 {
		a := s.sample()
		room := slices.Concat(a.v.V, []int{1, 2, 3}, a.parent.V, []int{4, 5, 6}, a.shifts, []int{7, 8, 9})
		was := slices.Clone(room)
		behind := len(a.v.V) + 3 + len(a.parent.V) + 3
		v := api.Plane{W: a.v.W, H: a.v.H, V: room[:len(a.v.V)]}
		parent := api.Plane{W: a.parent.W, H: a.parent.H, V: room[len(a.v.V)+3 : behind-3]}
		b, c, r := coefs.Encode(a.j, v, parent, room[behind:behind+len(a.shifts)])
		spoil(c.V)
		spoil(r.V)
		long := append(slices.Clone(b), "room behind"...)
		held := slices.Clone(long)
		c, r = coefs.Decode(a.j, v.W, v.H, parent, long[:len(b)])
		spoil(c.V)
		spoil(r.V)
		for i := range c.V {
			coefs.Mean(v, i%v.W, i/v.W)
		}
		if !slices.Equal(room, was) {
			t.Fatalf("%+v: what was handed in is changed", a.j)
		}
		if !bytes.Equal(long, held) {
			t.Fatalf("%+v: bytes that were handed in are changed", a.j)
		}
	}
}

// spoil a list, its spare room too.
func spoil(v []int) {
	v = v[:cap(v)]
	for i := range v {
		v[i] = -77
	}
}

func TestAnswersAreNewMemory(t *testing.T) {
	s := seeded(41)
	for range 200 {
		a := s.sample()
		want := encoded(a)
		b, c, r := coefs.Encode(a.j, a.v, a.parent, a.shifts)
		x, y := coefs.Decode(a.j, a.v.W, a.v.H, a.parent, b)
		spoil(c.V)
		wantPlane(t, "beside spoilt coarse numbers", r, a.v.W, a.v.H, want.back.V)
		spoil(x.V)
		wantPlane(t, "beside spoilt coarse numbers", y, a.v.W, a.v.H, want.back.V)
		if !bytes.Equal(b, want.bytes) {
			t.Fatalf("%+v: the bytes share memory", a.j)
		}
		_, c, _ = coefs.Encode(a.j, a.v, a.parent, a.shifts)
		x, _ = coefs.Decode(a.j, a.v.W, a.v.H, a.parent, b)
		spoil(r.V)
		spoil(y.V)
		b = b[:cap(b)]
		for i := range b {
			b[i] = 77
		}
		wantPlane(t, "beside spoilt numbers", c, a.v.W, a.v.H, want.coarse.V)
		wantPlane(t, "beside spoilt numbers", x, a.v.W, a.v.H, want.coarse.V)
		wantBoth(t, "once more", a, want.bytes, want.coarse.V, want.back.V)
	}
}

func TestOnePlaneMayBeAll(t *testing.T) {
	s := seeded(42)
	for range 50 {
		j, v := s.job(), s.drawn(6, 6, quiet)
		want := encoded(sample{j, v, copied(v), slices.Clone(v.V)})
		wantBoth(t, "its own parent and shifts", sample{j, v, v, v.V}, want.bytes, want.coarse.V, want.back.V)
	}
}

func FuzzDecodeOfAnyBytes(f *testing.F) {
	f.Add(2, 2, 1, 1, 0, 0, byte(0), []byte{0x80})
	f.Add(9, 4, 3, 2, 1, 60, byte(7), []byte("any bytes"))
	f.Add(0, 1025, 65, 0, -1, 61, byte(1), []byte{})
	f.Fuzz(func(t *testing.T, w, h, across, down, orient, q int, flags byte, b []byte) {
		j := api.Job{Orient: orient, Q: q, Inter: flags&1 > 0, Mean: flags&2 > 0, Multi: flags&4 > 0, Across: across, Down: down}
		parent := full(4, 4, int(flags>>3&1))
		if !coefs.Right(j, w, h) {
			wantNothingDecoded(t, "fuzz", j, w, h)
			return
		}
		if w*h < 4096 {
			wantDecodeByTheWords(t, "fuzz", j, w, h, parent, b)
		}
	})
}

func FuzzAnySample(f *testing.F) {
	f.Add(1)
	f.Add(77)
	f.Fuzz(func(t *testing.T, seed int) {
		wantByTheWords(t, fmt.Sprint("seed ", seed), seeded(seed).sample())
	})
}
