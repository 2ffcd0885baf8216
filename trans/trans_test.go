package trans_test

import (
	"bytes"
	"encoding/hex"
	"fmt"
	"math"
	"slices"
	"strconv"
	"strings"
	"testing"

	"shingle/api"
	"shingle/bands"
	"shingle/coefs"
	"shingle/trans"
	"shingle/wave"
)

const (
	least     = math.MinInt
	greatest  = math.MaxInt
	most      = 1024 // of a side
	mostDepth = 6
	mostParts = 64 // across, or down
	mostQuant = 60
	mostCode  = 1<<41 - 2
	silent    = 1<<40 - 1 // a number whose bits are all 0: a band of it alone has no bytes of layer 14
)

// sample: what Encode is handed.
type sample struct {
	s      api.Shape
	p      api.Plane
	inter  bool
	qs     []int
	shifts [][]int
}

// source of numbers for the tests, the same in each run.
type source uint64

func (s *source) next() int {
	*s ^= *s << 13
	*s ^= *s >> 7
	*s ^= *s << 17
	return int(*s)
}

// below a count, not below 0.
func (s *source) below(count int) int {
	return s.next() >> 8 & 0xffffffff % count
}

// one of a list.
func (s *source) one(list ...int) int {
	return list[s.below(len(list))]
}

// yes, half the times.
func (s *source) yes() bool {
	return s.below(2) == 1
}

func seeded(seed int) *source {
	s := source(0x6a09e667f3bcc909 + uint64(seed)*0x9e3779b97f4a7c15)
	return &s
}

func noughts(w, h int) api.Plane {
	return api.Plane{W: w, H: h, V: make([]int, w*h)}
}

// numbers that are named, as a plane.
func numbers(w, h int, v ...int) api.Plane {
	return api.Plane{W: w, H: h, V: v}
}

// full plane of one number.
func full(w, h, v int) api.Plane {
	return api.Plane{W: w, H: h, V: slices.Repeat([]int{v}, w*h)}
}

// plain shape: each band is one part, without a quantiser of its own.
func plain(f api.Filter, depth int) api.Shape {
	s := api.Shape{Filter: f, Depth: depth}
	for level := range depth + 1 {
		s.Across[level], s.Down[level] = 1, 1
	}
	return s
}

func filters() []api.Filter {
	return []api.Filter{api.Dubuc97, api.LeGall, api.Dubuc137, api.Haar, api.HaarOne}
}

// The kinds of drawn planes.
const (
	quiet     = iota // mostly noughts
	small            // as of a picture
	wide             // of any length up to 2^39
	voiceless        // of bits that are all 0, here and there
	anything         // of any length up to 64 bits, and the ends
	kinds
)

// drawn plane of a kind.
func (s *source) drawn(w, h, kind int) api.Plane {
	p := noughts(w, h)
	for i := range p.V {
		switch kind {
		case quiet:
			p.V[i] = s.one(0, 0, 0, 0, 0, 0, 0, 0, 0, 0, 1, -1, 3, -9, 100)
		case small:
			p.V[i] = s.below(601) - 300
		case wide:
			p.V[i] = s.one(1, -1) * (s.next() & (1<<s.below(40) - 1))
		case voiceless:
			p.V[i] = silent
		case anything:
			p.V[i] = s.one(least, greatest, mostCode, -mostCode, 1<<42, -1<<42, 0, s.next(), s.next()>>20, s.next()>>22, s.next()>>24, s.next()>>50)
		}
	}
	if kind == voiceless && s.yes() {
		p.V[s.below(len(p.V))] = s.one(0, 0, 1, -silent)
	}
	return p
}

// shape that is right; of levels that it doesn't have it tells anything.
func (s *source) shape(depth int) api.Shape {
	out := api.Shape{Filter: filters()[s.below(5)], Depth: depth, Multi: s.yes()}
	for level := range out.Across {
		out.Across[level] = s.one(1, 1, 1, 2, 3, s.below(mostParts)+1)
		out.Down[level] = s.one(1, 1, 1, 2, 3, s.below(mostParts)+1)
		if level > depth {
			out.Across[level], out.Down[level] = s.one(0, -1, 65, 7, least, greatest), s.one(0, -1, 65, 7, least, greatest)
		}
	}
	return out
}

// quantisers for some bands, for all, or for more.
func (s *source) quantisers(depth int) []int {
	var out []int
	for range s.below(bands.Count(depth) + 3) {
		out = append(out, s.one(0, 0, 1, 4, 8, 12, 60, s.below(61), s.below(30), s.below(20), 61, -1, least, greatest))
	}
	return out
}

// someShifts for some bands, for all, or for more.
func (s *source) someShifts(depth int) [][]int {
	var out [][]int
	for range s.below(bands.Count(depth) + 3) {
		var band []int
		for range s.below(7) {
			band = append(band, s.one(0, 0, 1, -1, 2, -3, 5, -8, 30, -61, mostCode, mostCode+1, least, greatest))
		}
		out = append(out, band)
	}
	return out
}

// sides of a plane that fits a depth.
func (s *source) sides(depth int) (int, int) {
	unit := 1 << depth
	return unit * (s.below(max(1, 16/unit)) + 1), unit * (s.below(max(1, 12/unit)) + 1)
}

func (s *source) sample(depth, kind int) sample {
	w, h := s.sides(depth)
	return sample{s.shape(depth), s.drawn(w, h, kind), s.yes(), s.quantisers(depth), s.someShifts(depth)}
}

// anySample of any kind, mostly not deep.
func (s *source) anySample() sample {
	return s.sample(s.one(0, 0, 1, 1, 1, 2, 2, 2, 3, 3, 4, 5, 6), s.below(kinds))
}

// The chapter's words, with layers 10 and 14. A text of 0 and 1 stands for bits.

// code of a number.
func code(v int) string {
	out := ""
	for _, digit := range strconv.FormatInt(int64(v)+1, 2)[1:] {
		out += "0" + string(digit)
	}
	return out + "1"
}

// whole bytes of bits, with noughts behind them.
func whole(text string) []byte {
	var out []byte
	for text != "" {
		eight := (text + "0000000")[:8]
		v, err := strconv.ParseUint(eight, 2, 8)
		if err != nil {
			panic(err)
		}
		out = append(out, byte(v))
		text = text[min(8, len(text)):]
	}
	return out
}

// of pieces: bytes, or bits that are filled up to whole ones.
func of(pieces ...any) []byte {
	var out []byte
	for _, piece := range pieces {
		switch p := piece.(type) {
		case string:
			out = append(out, whole(p)...)
		case []byte:
			out = append(out, p...)
		}
	}
	return out
}

// bitsOf bytes.
func bitsOf(b []byte) string {
	var out strings.Builder
	for _, v := range b {
		fmt.Fprintf(&out, "%08b", v)
	}
	return out.String()
}

// told code at the beginning of bits, and the bits behind it; false, if it has no end among them.
func toldCode(text string) (int, string, bool) {
	digits := "1"
	for len(digits) < 32 && len(text) >= 2 && text[0] == '0' {
		digits, text = digits+text[1:2], text[2:]
	}
	if text == "" || text[0] == '0' {
		return 0, "", false
	}
	v, err := strconv.ParseInt(digits, 2, 64)
	return int(v) - 1, text[1:], err == nil
}

// cut a band out of a plane.
func cut(p api.Plane, b api.Band) api.Plane {
	q := api.Plane{W: b.W, H: b.H}
	for y := range b.H {
		at := (b.Y+y)*p.W + b.X
		q.V = append(q.V, p.V[at:at+b.W]...)
	}
	return q
}

// lay a band into a plane.
func lay(p api.Plane, b api.Band, q api.Plane) {
	for y := range b.H {
		copy(p.V[(b.Y+y)*p.W+b.X:], q.V[y*b.W:(y+1)*b.W])
	}
}

// parentOf a band among the coarse numbers of those ahead of it.
func parentOf(list []api.Band, coarse []api.Plane, b api.Band) api.Plane {
	for i, a := range list[:len(coarse)] {
		if a.Level == b.Level-1 && a.Orient == b.Orient {
			return coarse[i]
		}
	}
	return api.Plane{}
}

func jobOf(s api.Shape, i int, b api.Band, q int, inter bool) api.Job {
	return api.Job{Orient: b.Orient, Q: q, Inter: inter, Mean: i == 0 && !inter, Across: s.Across[b.Level], Down: s.Down[b.Level], Multi: s.Multi}
}

// told by Encode: the bytes, and the numbers that come back; and how much data each band has.
type told struct {
	bytes []byte
	back  api.Plane
	data  []int
}

// encoded by the chapter's words.
func encoded(a sample) told {
	out := told{back: noughts(a.p.W, a.p.H)}
	list := bands.List(a.p.W, a.p.H, a.s.Depth)
	var coarse []api.Plane
	for i, b := range list {
		q := 0
		if len(a.qs) > 0 {
			q = max(0, min(mostQuant, a.qs[min(i, len(a.qs)-1)]))
		}
		var shifts []int
		if i < len(a.shifts) {
			shifts = a.shifts[i]
		}
		data, c, r := coefs.Encode(jobOf(a.s, i, b, q, a.inter), cut(a.p, b), parentOf(list, coarse, b), shifts)
		coarse = append(coarse, c)
		lay(out.back, b, r)
		bits := ""
		if !slices.ContainsFunc(c.V, func(v int) bool { return v != 0 }) {
			data = nil
			bits = code(0)
		} else {
			if len(data) == 0 {
				data = []byte{0}
			}
			bits = code(len(data)) + code(q)
		}
		out.bytes = append(out.bytes, of(bits, data)...)
		out.data = append(out.data, len(data))
	}
	return out
}

// decoded by the chapter's words.
func decoded(s api.Shape, w, h int, inter bool, b []byte) (api.Plane, int, api.Errno) {
	list := bands.List(w, h, s.Depth)
	back, left := noughts(w, h), b
	var coarse []api.Plane
	for i, band := range list {
		bits, q := bitsOf(left[:min(len(left), 20)]), 0 // two codes have up to 126 bits
		size, behind, ok := toldCode(bits)
		if ok && size > 0 {
			q, behind, ok = toldCode(behind)
		}
		if !ok {
			return api.Plane{}, 0, api.ErrTrunc
		}
		if q > mostQuant {
			return api.Plane{}, 0, api.ErrQuant
		}
		left = left[(len(bits)-len(behind)+7)/8:]
		if len(left) < size {
			return api.Plane{}, 0, api.ErrTrunc
		}
		c, r := noughts(band.W, band.H), noughts(band.W, band.H)
		if size > 0 {
			c, r = coefs.Decode(jobOf(s, i, band, q, inter), band.W, band.H, parentOf(list, coarse, band), left[:size])
		}
		left = left[size:]
		coarse = append(coarse, c)
		lay(back, band, r)
	}
	return back, len(b) - len(left), api.OK
}

// What the tests want.

func wantPlane(t *testing.T, what string, got api.Plane, w, h int, v []int) {
	t.Helper()
	if got.W != w || got.H != h || !slices.Equal(got.V, v) {
		t.Fatalf("%s: %v, not %d by %d of %v", what, got, w, h, v)
	}
}

// wantEncode of a sample.
func wantEncode(t *testing.T, what string, a sample, b []byte, back []int) {
	t.Helper()
	got, r := trans.Encode(a.s, a.p, a.inter, a.qs, a.shifts)
	if !bytes.Equal(got, b) {
		t.Fatalf("%s, %+v: bytes %x, not %x", what, a, got, b)
	}
	wantPlane(t, fmt.Sprintf("%s, %+v: Encode's numbers", what, a), r, a.p.W, a.p.H, back)
}

// wantDecode of bytes.
func wantDecode(t *testing.T, what string, s api.Shape, w, h int, inter bool, b []byte, back []int, count int) {
	t.Helper()
	r, n, err := trans.Decode(s, w, h, inter, b)
	if err != api.OK || n != count {
		t.Fatalf("%s, %+v: of %x %d bytes and %v, not %d", what, s, b, n, err, count)
	}
	wantPlane(t, fmt.Sprintf("%s, %+v: Decode's numbers of %x", what, s, b), r, w, h, back)
}

// wantError of Decode.
func wantError(t *testing.T, what string, s api.Shape, w, h int, inter bool, b []byte, want api.Errno) {
	t.Helper()
	r, n, err := trans.Decode(s, w, h, inter, b)
	if err != want || n != 0 || r.W != 0 || r.H != 0 || len(r.V) != 0 {
		t.Fatalf("%s, %+v, %d by %d of %x: %v, %d, %v, not %v alone", what, s, w, h, b, r, n, err, want)
	}
}

// wantBoth ways, whatever stands behind.
func wantBoth(t *testing.T, what string, a sample, b []byte, back []int) {
	t.Helper()
	wantEncode(t, what, a, b, back)
	for _, behind := range []string{"", "\xffmore"} {
		wantDecode(t, what, a.s, a.p.W, a.p.H, a.inter, append(slices.Clone(b), behind...), back, len(b))
	}
}

// wantByTheWords: both ways, as the chapter's words tell.
func wantByTheWords(t *testing.T, what string, a sample) told {
	t.Helper()
	want := encoded(a)
	wantBoth(t, what, a, want.bytes, want.back.V)
	return want
}

// wantDecodeByTheWords of any bytes: the error is told.
func wantDecodeByTheWords(t *testing.T, what string, s api.Shape, w, h int, inter bool, b []byte) api.Errno {
	t.Helper()
	r, n, err := decoded(s, w, h, inter, b)
	if err != api.OK {
		wantError(t, what, s, w, h, inter, b, err)
		return err
	}
	wantDecode(t, what, s, w, h, inter, b, r.V, n)
	return err
}

// wantNothing of a shape or a plane that isn't right.
func wantNothing(t *testing.T, what string, a sample) {
	t.Helper()
	b, r := trans.Encode(a.s, a.p, a.inter, a.qs, a.shifts)
	if len(b) != 0 || r.W != 0 || r.H != 0 || len(r.V) != 0 {
		t.Errorf("%s, %+v: Encode tells %x, %v", what, a.s, b, r)
	}
}

func unhex(t *testing.T, text string) []byte {
	t.Helper()
	b, err := hex.DecodeString(text)
	if err != nil {
		t.Fatal(err)
	}
	return b
}

// P15.1: right shapes.

// wrongInts that no count, depth or filter is.
func wrongInts() []int {
	return []int{-1, -2, -6, -64, 65, 66, 128, 256, 1 << 31, 1 << 32, 1<<32 + 1, 1<<32 + 5, -1 << 32, 1 - 1<<32, least, least + 1, greatest - 1, greatest}
}

// fewRight shapes: one of each depth, without anything at the levels behind it, and one with all that may be.
func fewRight() []api.Shape {
	var out []api.Shape
	for depth := range mostDepth + 1 {
		out = append(out, plain(filters()[depth%5], depth))
		all := api.Shape{Filter: filters()[(depth+2)%5], Depth: depth, Multi: true}
		for level := range depth + 1 {
			all.Across[level], all.Down[level] = mostParts-level, level+2
		}
		out = append(out, all)
	}
	return out
}

// wrongShapes: one number of a right one is wrong.
func wrongShapes() []api.Shape {
	out := []api.Shape{{}, {Filter: 5, Depth: 7}, {Filter: -1, Depth: -1}, {Depth: 6}}
	for _, right := range fewRight() {
		with := func(change func(s *api.Shape)) {
			s := right
			change(&s)
			out = append(out, s)
		}
		for _, n := range append(wrongInts(), 5, 6, 7) {
			with(func(s *api.Shape) { s.Filter = api.Filter(n) })
		}
		for _, n := range append(wrongInts(), 7, 8) {
			with(func(s *api.Shape) { s.Depth = n })
			with(func(s *api.Shape) {
				s.Depth, s.Across, s.Down = n, [7]int{1, 1, 1, 1, 1, 1, 1}, [7]int{1, 1, 1, 1, 1, 1, 1}
			})
		}
		for level := range right.Depth + 1 {
			for _, n := range append(wrongInts(), 0) {
				with(func(s *api.Shape) { s.Across[level] = n })
				with(func(s *api.Shape) { s.Down[level] = n })
			}
		}
	}
	return out
}

func wantRight(t *testing.T, s api.Shape, want bool) {
	t.Helper()
	if got := trans.Right(s); got != want {
		t.Errorf("%+v: %v", s, got)
	}
}

func TestRightShapes(t *testing.T) {
	for _, f := range filters() {
		for depth := range mostDepth + 1 {
			s := plain(f, depth)
			wantRight(t, s, true)
			s.Multi = true
			wantRight(t, s, true)
			for level := range depth + 1 {
				for _, n := range []int{1, 2, 63, 64} {
					s.Across[level] = n
					wantRight(t, s, true)
					s.Down[level] = n
					wantRight(t, s, true)
				}
			}
		}
	}
}

func TestShapesThatAreNotRight(t *testing.T) {
	for _, s := range wrongShapes() {
		wantRight(t, s, false)
	}
}

func TestLevelsBehindDepthDoNotCount(t *testing.T) {
	for _, right := range fewRight() {
		for level := right.Depth + 1; level <= mostDepth; level++ {
			for _, n := range append(wrongInts(), 0, 1, 64) {
				s := right
				s.Across[level] = n
				wantRight(t, s, true)
				s.Down[level] = n
				wantRight(t, s, true)
			}
		}
		if right.Depth < mostDepth {
			s := right
			s.Depth++
			wantRight(t, s, false) // a level of noughts more
			s.Across[s.Depth] = 1
			wantRight(t, s, false)
			s.Down[s.Depth] = 1
			wantRight(t, s, true)
		}
	}
}

// P15.1: jobs.

// counted shape: each level's counts are its own.
func counted(multi bool) api.Shape {
	return api.Shape{Filter: api.Haar, Depth: 2, Across: [7]int{11, 12, 13, 14, 15, 16, 17}, Down: [7]int{21, 22, 23, 24, 25, 26, 27}, Multi: multi}
}

func wantJob(t *testing.T, s api.Shape, b api.Band, q int, inter bool, want api.Job) {
	t.Helper()
	if got := trans.Job(s, b, q, inter); got != want {
		t.Errorf("%+v, %+v, %d, %v: %+v, not %+v", s, b, q, inter, got, want)
	}
}

func TestJobs(t *testing.T) {
	qs := []int{0, 1, 30, 60, 61, -1, 1 << 32, least, greatest}
	orients := []int{0, 1, 2, 3, 4, -1, 1 << 32, least, greatest}
	for flags := range 4 {
		inter, multi := flags&1 > 0, flags&2 > 0
		for _, q := range qs {
			for _, orient := range orients {
				for level := range mostDepth + 1 {
					wantJob(t, counted(multi), api.Band{Level: level, Orient: orient, X: 3, Y: 4, W: 5, H: 6}, q, inter,
						api.Job{Orient: orient, Q: q, Inter: inter, Mean: level == 0 && !inter, Across: 11 + level, Down: 21 + level, Multi: multi})
				}
				for _, level := range []int{-1, -2, -6, 7, 8, 1 << 32, 1<<32 + 1, -1 << 32, least, least + 1, greatest - 1, greatest} {
					wantJob(t, counted(multi), api.Band{Level: level, Orient: orient}, q, inter,
						api.Job{Orient: orient, Q: q, Inter: inter, Across: 11, Down: 21, Multi: multi})
				}
			}
		}
	}
}

func TestJobsOfShapesThatAreNotRight(t *testing.T) {
	wantJob(t, api.Shape{}, api.Band{}, 7, false, api.Job{Q: 7, Mean: true})
	wantJob(t, api.Shape{}, api.Band{Level: 1, Orient: 2}, 7, true, api.Job{Q: 7, Orient: 2, Inter: true})
	for _, s := range wrongShapes() {
		for level := range mostDepth + 1 {
			wantJob(t, s, api.Band{Level: level, Orient: 1}, 2, false,
				api.Job{Orient: 1, Q: 2, Mean: level == 0, Across: s.Across[level], Down: s.Down[level], Multi: s.Multi})
		}
	}
}

// The job doesn't hang on the band's place and sides, nor on the filter and the depth.
func TestJobsHangOnLevelAndOrientAlone(t *testing.T) {
	s := counted(true)
	want := trans.Job(s, api.Band{Level: 3, Orient: 2}, 9, true)
	for _, n := range append(wrongInts(), 0, 1, 2, 3) {
		wantJob(t, s, api.Band{Level: 3, Orient: 2, X: n, Y: n, W: n, H: n}, 9, true, want)
		other := s
		other.Filter, other.Depth = api.Filter(n), n
		wantJob(t, other, api.Band{Level: 3, Orient: 2}, 9, true, want)
	}
}

// P15.2: the bytes.

func TestTheChaptersExample(t *testing.T) {
	for _, f := range filters() {
		for _, sides := range [][2]int{{1, 1}, {3, 1}, {7, 9}, {64, 1}, {1, 64}} {
			for q := range 62 {
				for flags := range 4 {
					s := plain(f, 0)
					s.Multi = flags&1 > 0
					w, h := sides[0], sides[1]
					wantBoth(t, "noughts", sample{s, noughts(w, h), flags&2 > 0, []int{q - 1}, [][]int{{5}}}, []byte{0x80}, make([]int, w*h))
				}
			}
		}
	}
}

func TestNoughtsAreAByteABand(t *testing.T) {
	s := seeded(1)
	for depth := range mostDepth + 1 {
		for range 20 {
			w, h := s.sides(depth)
			a := sample{s.shape(depth), noughts(w, h), s.yes(), s.quantisers(depth), s.someShifts(depth)}
			wantBoth(t, "noughts", a, bytes.Repeat([]byte{0x80}, 3*depth+1), make([]int, w*h))
		}
	}
}

// By hand: 30 is the length 1 and the quantiser 0 (001 and 1), 23 the quantiser 4 (001 and 00011); 20 is a 1 (layer 14).
func TestBytesOfOneByteBands(t *testing.T) {
	dot := plain(api.LeGall, 0)
	for _, c := range []struct {
		name string
		a    sample
		b    []byte
		back []int
	}{
		{"a one", sample{dot, numbers(1, 1, 1), false, nil, nil}, []byte{0x30, 0x20}, []int{1}},
		{"a one, by others", sample{dot, numbers(1, 1, 1), true, nil, nil}, []byte{0x30, 0x20}, []int{1}},
		{"by the quantiser 1", sample{dot, numbers(1, 1, 2), false, []int{1}, nil}, of("001"+"001", []byte{0x20}), []int{2}},
		{"by the quantiser 4", sample{dot, numbers(1, 1, 2), false, []int{4}, nil}, []byte{0x23, 0x20}, []int{3}},
		{"by the quantiser 60", sample{dot, numbers(1, 1, 1<<15), false, []int{60}, nil}, of("001"+"01010100011", []byte{0x20}), []int{1<<15 + 1<<14}},
		{"too little for the quantiser", sample{dot, numbers(1, 1, 1<<15-1), false, []int{60}, nil}, []byte{0x80}, []int{0}},
		{"data of no bytes", sample{dot, numbers(1, 1, silent), false, nil, nil}, []byte{0x30, 0x00}, []int{silent}},
		{"data of no bytes, many numbers", sample{dot, full(3, 2, silent), true, nil, nil}, []byte{0x30, 0x00}, slices.Repeat([]int{silent}, 6)},
		{"data of no bytes, coarse", sample{dot, numbers(1, 1, mostCode), false, []int{4}, nil}, []byte{0x23, 0x00}, []int{mostCode + 1}},
		{"one band of four", sample{plain(api.Haar, 1), numbers(2, 2, 0, 1, 0, 0), true, nil, nil}, []byte{0x80, 0x30, 0x20, 0x80, 0x80}, []int{0, 1, 0, 0}},
		{"the first one of four", sample{plain(api.Haar, 1), numbers(2, 2, 1, 0, 0, 0), false, nil, nil}, []byte{0x30, 0x20, 0x80, 0x80, 0x80}, []int{1, 0, 0, 0}},
		{"the last one of four", sample{plain(api.Haar, 1), numbers(2, 2, 0, 0, 0, silent), true, nil, nil}, []byte{0x80, 0x80, 0x80, 0x30, 0x00}, []int{0, 0, 0, silent}},
	} {
		wantBoth(t, c.name, c.a, c.b, c.back)
	}
}

func TestBytesThatWereWorkedOut(t *testing.T) {
	for _, c := range workedOut() {
		wantBoth(t, c.name, sample{c.s, c.p, c.inter, c.qs, c.shifts}, unhex(t, c.hex), c.back)
	}
}

func TestLongBytesThatWereWorkedOut(t *testing.T) {
	for _, c := range longOnes() {
		a := sample{c.s, byRule(c.w, c.h, c.times, c.plus), c.inter, c.qs, c.shifts}
		b, r := trans.Encode(a.s, a.p, a.inter, a.qs, a.shifts)
		if got := hex.EncodeToString(b); got != c.hex {
			t.Errorf("%s: %s, not %s", c.name, got, c.hex)
		}
		if got := checked(r.V); got != c.check {
			t.Errorf("%s: the numbers come to %d, not %d", c.name, got, c.check)
		}
		wantBoth(t, c.name, a, unhex(t, c.hex), r.V)
	}
}

func TestAllKindsByTheChaptersWords(t *testing.T) {
	s := seeded(2)
	silences := 0
	for depth := range mostDepth + 1 {
		for kind := range kinds {
			for i := range 60 / (depth + 1) {
				want := wantByTheWords(t, fmt.Sprint("depth ", depth, ", kind ", kind, ", ", i), s.sample(depth, kind))
				silences += len(want.data) - len(slices.DeleteFunc(want.data, func(n int) bool { return n == 1 }))
			}
		}
	}
	if silences < 100 {
		t.Errorf("only %d bands with a byte alone", silences)
	}
}

// The bytes don't hang on the filter.
func TestEachFilterHasTheSameBytes(t *testing.T) {
	s := seeded(3)
	for range 30 {
		a := s.anySample()
		want := encoded(a)
		for _, f := range filters() {
			a.s.Filter = f
			wantBoth(t, "filter", a, want.bytes, want.back.V)
		}
	}
}

// Lengths whose codes have more bits than a byte.
func TestGreatLengths(t *testing.T) {
	s := seeded(4)
	for _, side := range []int{8, 16, 32, 64, 128} {
		for _, q := range []int{0, 1, 3, 7, 12} {
			a := sample{plain(api.Dubuc97, 1), s.drawn(side, side, wide), s.yes(), []int{q}, nil}
			want := wantByTheWords(t, fmt.Sprint("side ", side), a)
			if side == 128 && q == 0 && slices.Min(want.data) < 4096 {
				t.Errorf("only %d bytes", slices.Min(want.data))
			}
		}
	}
}

// P15.2: quantisers.

// loud plane: no band of it is quiet, by any quantiser.
func loud(w, h int) api.Plane {
	p := noughts(w, h)
	for i := range p.V {
		p.V[i] = 1<<20 + i*i*977%65536
	}
	return p
}

func TestQuantisersForEachBand(t *testing.T) {
	for depth := range 4 {
		count := 3*depth + 1
		w, h := 2<<depth, 1<<depth
		s := plain(api.LeGall, depth)
		qs := []int{40, 2, 60, 0, 33, 17, 5, 59, 21, 1}[:count]
		want := encoded(sample{s, loud(w, h), true, qs, nil})
		for _, more := range [][]int{nil, {3}, {61, -1, 7}} {
			wantBoth(t, "more", sample{s, loud(w, h), true, slices.Concat(qs, more), nil}, want.bytes, want.back.V)
		}
		for some := range count {
			few := qs[:some]
			filled := append(slices.Clone(few), make([]int, count-some)...)
			for i := some; i < count && some > 0; i++ {
				filled[i] = few[some-1]
			}
			as := encoded(sample{s, loud(w, h), false, filled, nil})
			wantBoth(t, fmt.Sprint("some, ", some), sample{s, loud(w, h), false, few, nil}, as.bytes, as.back.V)
		}
	}
}

// Each band by its quantiser, and by itself or by others. By hand: 1001 by 8 is 500, 1002 by 16 is 250, 1003 by 32 is 125;
// back, by others, (4000 + 3 + 2) / 4, (4000 + 6 + 2) / 4 and (4000 + 12 + 2) / 4; by itself with 4, 8 and 16 in the middle.
func TestEachBandsOwnQuantiser(t *testing.T) {
	p := numbers(2, 2, 1000, 1001, 1002, 1003)
	others := sample{plain(api.Haar, 1), p, true, []int{0, 4, 8, 12}, nil}
	wantBoth(t, "by others", others, encoded(others).bytes, []int{1000, 1001, 1002, 1003})
	itself := sample{plain(api.Haar, 1), p, false, []int{0, 4, 8, 12}, nil}
	wantBoth(t, "by itself", itself, encoded(itself).bytes, []int{1000, 1001, 1002, 1004})
}

func TestQuantisersBeyondTheEnds(t *testing.T) {
	for depth := range 3 {
		w, h := 2<<depth, 2<<depth
		for _, inter := range []bool{false, true} {
			s := plain(api.Haar, depth)
			lowest := encoded(sample{s, loud(w, h), inter, []int{0}, nil})
			highest := encoded(sample{s, loud(w, h), inter, []int{60}, nil})
			for _, q := range []int{0, -1, -4, -60, -1 << 32, least, least + 1} {
				wantBoth(t, fmt.Sprint(q), sample{s, loud(w, h), inter, []int{q}, nil}, lowest.bytes, lowest.back.V)
			}
			for _, q := range []int{60, 61, 64, 120, 256, 1 << 32, greatest - 1, greatest} {
				wantBoth(t, fmt.Sprint(q), sample{s, loud(w, h), inter, []int{q}, nil}, highest.bytes, highest.back.V)
			}
			wantBoth(t, "none", sample{s, loud(w, h), inter, nil, nil}, lowest.bytes, lowest.back.V)
			wantBoth(t, "empty", sample{s, loud(w, h), inter, []int{}, nil}, lowest.bytes, lowest.back.V)
		}
	}
}

// P15.2: shifts.

func TestShiftsForSomeBands(t *testing.T) {
	s := seeded(5)
	for depth := range 4 {
		count := 3*depth + 1
		shape := s.shape(depth)
		shape.Multi = true
		w, h := 4<<depth, 2<<depth
		var all [][]int
		for i := range count {
			all = append(all, []int{i%5 - 2, 3 - i%7, 1})
		}
		for some := range count + 1 {
			a := sample{shape, loud(w, h), s.yes(), []int{12, 20}, all[:some]}
			want := wantByTheWords(t, fmt.Sprint("some, ", some), a)
			a.shifts = append(slices.Clone(all[:some]), make([][]int, count-some)...)
			wantBoth(t, "none behind", a, want.bytes, want.back.V)
		}
		a := sample{shape, loud(w, h), s.yes(), []int{12, 20}, all}
		want := encoded(a)
		a.shifts = slices.Concat(all, [][]int{{9, 9}, nil, {least, greatest}})
		wantBoth(t, "for more bands", a, want.bytes, want.back.V)
		a.s.Multi, a.shifts = false, nil
		want = encoded(a)
		a.shifts = all
		wantBoth(t, "without Multi", a, want.bytes, want.back.V)
	}
}

// A band of one number by a shift tells it with its data: 40 by the quantiser 8 and the shift -4.
func TestAShiftIsOfItsBand(t *testing.T) {
	s := plain(api.Haar, 1)
	s.Multi = true
	p := numbers(2, 2, 44, 44, 44, 44)
	// By 16: 11, back (176 + 6 + 2) / 4; by 8: 22, back (176 + 3 + 2) / 4; by 32: 5, back (160 + 12 + 2) / 4.
	for _, c := range []struct {
		shifts [][]int
		back   []int
	}{
		{nil, []int{46, 46, 46, 46}},
		{[][]int{{-4}}, []int{45, 46, 46, 46}},
		{[][]int{nil, {-4}}, []int{46, 45, 46, 46}},
		{[][]int{nil, nil, {-4}, {4}}, []int{46, 46, 45, 43}},
		{[][]int{{0, -4}, {4}, {}, {-4, 4}}, []int{46, 43, 46, 45}},
	} {
		a := sample{s, p, true, []int{8}, c.shifts}
		want := encoded(a)
		wantBoth(t, fmt.Sprint(c.shifts), a, want.bytes, c.back)
	}
}

// P15.2: parents.

// Each band's parent is that of one level less with the same orient: another number in a band changes its own bytes, and
// those of the bands whose parent it is, no others.
func TestParents(t *testing.T) {
	s := plain(api.Haar, 3)
	p := loud(16, 16)
	list := bands.List(16, 16, 3)
	was := pieces(sample{s, p, true, nil, nil})
	for i, b := range list {
		q := numbers(16, 16, slices.Clone(p.V)...)
		q.V[b.Y*16+b.X] = 0
		for k, piece := range pieces(sample{s, q, true, nil, nil}) {
			differs := k == i || list[k].Level == b.Level+1 && list[k].Orient == b.Orient
			if bytes.Equal(piece, was[k]) == differs {
				t.Errorf("another number in the band %d: does %d differ?", i, k)
			}
		}
	}
}

func mustEncode(a sample) []byte {
	b, _ := trans.Encode(a.s, a.p, a.inter, a.qs, a.shifts)
	return b
}

// pieces of the bytes, band by band.
func pieces(a sample) [][]byte {
	left := mustEncode(a)
	var out [][]byte
	for _, n := range encoded(a).data {
		size, behind, _ := toldCode(bitsOf(left[:min(20, len(left))]))
		if size != n {
			panic("lengths that aren't the words'")
		}
		if size > 0 {
			_, behind, _ = toldCode(behind)
		}
		end := (8*min(20, len(left))-len(behind)+7)/8 + size
		out = append(out, left[:end])
		left = left[end:]
	}
	return out
}

// A parent counts by its coarse numbers, not by what was handed in: by the quantiser 12 (factor 32) what is below 8 is 0.
func TestParentsAreCoarse(t *testing.T) {
	s := plain(api.Haar, 2)
	with := func(parent int) []byte {
		p := loud(8, 8)
		copy(p.V[2:], []int{parent, 100}) // of orient 1, level 1; below them stand others, that aren't 0
		return pieces(sample{s, p, true, []int{0, 12, 12, 12, 0}, nil})[4]
	}
	for parent, counts := range map[int]bool{0: false, 1: false, 7: false, -7: false, 8: true, -8: true, 100: true} {
		if bytes.Equal(with(parent), with(0)) == counts {
			t.Errorf("a parent of %d: %x, and of 0 %x", parent, with(parent), with(0))
		}
	}
}

// P15.2: nothing is told where the shape isn't right, or the plane doesn't fit.

// wrongPlanes by name.
func wrongPlanes() map[string]api.Plane {
	out := map[string]api.Plane{"zero": {}, "room alone": {W: 2, H: 2, V: make([]int, 4)[:0]}}
	for name, s := range map[string][3]int{ // W, H, how many numbers
		"numbers without sides": {0, 0, 4},
		"without numbers":       {2, 2, 0},
		"one too few":           {2, 2, 3},
		"one too many":          {2, 2, 5},
		"none wide":             {0, 4, 4},
		"none high":             {4, 0, 4},
		"both below 0":          {-2, -2, 4},
		"too wide":              {most + 64, 2, 2 * (most + 64)},
		"too high":              {2, most + 64, 2 * (most + 64)},
		"one too wide":          {most + 1, 1, most + 1},
		"wraps to 0":            {1 << 32, 1 << 32, 0},
		"wraps to 8":            {1<<61 + 1, 8, 8},
		"wraps to 1":            {greatest, greatest, 1},
		"least by least":        {least, least, 0},
		"least wide":            {least, 2, 2},
		"greatest high":         {2, greatest, 2},
	} {
		out[name] = api.Plane{W: s[0], H: s[1], V: slices.Repeat([]int{7}, s[2])}
	}
	return out
}

func TestNothingOfShapesThatAreNotRight(t *testing.T) {
	for _, s := range wrongShapes() {
		for _, p := range []api.Plane{full(64, 64, 3), noughts(1, 1), {}} {
			wantNothing(t, "shape", sample{s, p, false, []int{5}, nil})
			wantNothing(t, "shape", sample{s, p, true, nil, [][]int{{1}}})
		}
	}
}

func TestNothingOfPlanesThatAreNotRight(t *testing.T) {
	for name, p := range wrongPlanes() {
		for _, s := range fewRight() {
			wantNothing(t, name, sample{s, p, true, nil, nil})
			wantNothing(t, name, sample{s, p, false, []int{9}, [][]int{{1, 2}}})
		}
	}
}

func TestNothingOfPlanesThatDoNotFit(t *testing.T) {
	for _, s := range fewRight() {
		for _, w := range []int{1, 2, 3, 4, 6, 8, 12, 16, 24, 32, 48, 64, 96, 63, 65} {
			for _, h := range []int{1, 2, 4, 8, 16, 32, 64, 5} {
				fits := w%(1<<s.Depth) == 0 && h%(1<<s.Depth) == 0
				b, r := trans.Encode(s, noughts(w, h), false, nil, nil)
				if fits && (len(b) != 3*s.Depth+1 || r.W != w || r.H != h) || !fits && (len(b) != 0 || r.W != 0 || r.H != 0 || len(r.V) != 0) {
					t.Errorf("%d by %d, depth %d: %x, %d by %d", w, h, s.Depth, b, r.W, r.H)
				}
				_, n, err := trans.Decode(s, w, h, false, bytes.Repeat([]byte{0x80}, 19))
				if fits && (n != 3*s.Depth+1 || err != api.OK) || !fits && (n != 0 || err != api.ErrArg) {
					t.Errorf("%d by %d, depth %d: %d, %v", w, h, s.Depth, n, err)
				}
			}
		}
	}
}

// P15.3: arguments.

func TestDecodeOfShapesThatAreNotRight(t *testing.T) {
	good := bytes.Repeat([]byte{0x80}, 30)
	for _, s := range wrongShapes() {
		for _, b := range [][]byte{good, nil, {0}, of(code(1) + code(61))} {
			wantError(t, "shape", s, 64, 64, false, b, api.ErrArg)
			wantError(t, "shape", s, 0, 3, true, b, api.ErrArg)
		}
	}
}

func TestDecodeOfSidesThatAreNotRight(t *testing.T) {
	good := bytes.Repeat([]byte{0x80}, 30)
	for _, s := range fewRight() {
		for _, n := range []int{0, -1, -64, most + 1, most + 64, 2 * most, 1 << 31, 1 << 32, 1<<32 + 64, -1 << 32, 1 << 62, least, least + 64, greatest - 63, greatest} {
			for _, side := range []int{64, most, 1, n} {
				for _, b := range [][]byte{good, nil, {0}, of(code(1) + code(61))} {
					wantError(t, "sides", s, n, side, false, b, api.ErrArg)
					wantError(t, "sides", s, side, n, true, b, api.ErrArg)
				}
			}
		}
	}
}

func TestDecodeAtTheGreatestSides(t *testing.T) {
	for _, s := range fewRight() {
		for _, sides := range [][2]int{{64, most}, {most, 64}} {
			w, h := sides[0], sides[1]
			wantDecode(t, "greatest", s, w, h, true, bytes.Repeat([]byte{0x80}, 30), make([]int, w*h), 3*s.Depth+1)
		}
	}
	wantDecode(t, "greatest", plain(api.Haar, 6), most, most, false, bytes.Repeat([]byte{0x80}, 19), make([]int, most*most), 19)
}

func TestBothWaysAtTheGreatestSides(t *testing.T) {
	p := noughts(most, most)
	p.V[0], p.V[most*most-1], p.V[most*3/4] = 5, -6, 7
	s := plain(api.LeGall, 6)
	s.Across[6], s.Down[6] = mostParts, mostParts
	b, r := trans.Encode(s, p, false, nil, nil)
	if len(b) <= 19 || !slices.Equal(r.V, p.V) {
		t.Errorf("%d bytes", len(b))
	}
	wantDecode(t, "greatest", s, most, most, false, append(b, 1, 2, 3), p.V, len(b))
}

// P15.3: what bytes mean.

func TestMeanings(t *testing.T) {
	for _, c := range meanings() {
		if c.err != api.OK {
			wantError(t, c.name, c.s, c.w, c.h, c.inter, unhex(t, c.hex), c.err)
			continue
		}
		wantDecode(t, c.name, c.s, c.w, c.h, c.inter, unhex(t, c.hex), c.back, c.count)
	}
}

// One band of one number: whatever its length, quantiser and how many bytes are there.
func TestLengthsAndQuantisers(t *testing.T) {
	s := plain(api.Haar, 0)
	sizes := []int{1, 2, 3, 6, 7, 14, 15, 100, 1000, 1 << 20, 1<<31 - 2, 1<<31 - 1, 1<<32 - 3, 1<<32 - 2}
	for _, size := range sizes {
		for _, q := range []int{0, 1, 2, 6, 7, 59, 60, 61, 62, 63, 64, 255, 256, 1<<31 - 1, 1 << 31, 1<<32 - 2} {
			for _, there := range []int{0, 1, size - 1, size, size + 1} {
				if there > 2000 {
					continue
				}
				b := of(code(size)+code(q), bytes.Repeat([]byte{0x80}, there))
				switch {
				case q > 60:
					wantError(t, "quantiser", s, 1, 1, false, b, api.ErrQuant)
				case there < size:
					wantError(t, "too few", s, 1, 1, false, b, api.ErrTrunc)
				default:
					wantDecode(t, "there", s, 1, 1, false, b, []int{0}, len(b)-there+size)
				}
			}
		}
		wantError(t, "half a code", s, 1, 1, false, whole(code(size))[:1], api.ErrTrunc)
	}
}

// Bytes that are cut off at every place are cut off, wherever that is.
func TestBytesThatAreCutOff(t *testing.T) {
	s := seeded(6)
	for i := range 80 {
		a := s.anySample()
		b := encoded(a).bytes
		for count := 0; count < len(b); count += 1 + len(b)/100 {
			wantError(t, fmt.Sprint("cut off ", i), a.s, a.p.W, a.p.H, a.inter, b[:count], api.ErrTrunc)
		}
		wantError(t, "a byte too few", a.s, a.p.W, a.p.H, a.inter, b[:len(b)-1], api.ErrTrunc)
	}
}

// Errors of the first band that has one, whatever stands behind it.
func TestErrorsBandByBand(t *testing.T) {
	s := plain(api.LeGall, 1)
	good, wrong, more := of(code(1)+code(4), []byte{0x40}), of(code(1)+code(61)), of(code(9)+code(60), []byte{1, 2})
	for i := range 4 {
		ahead := bytes.Repeat(good, i)
		wantError(t, "wrong", s, 2, 2, true, of(ahead, wrong), api.ErrQuant)
		wantError(t, "wrong, and more of it", s, 2, 2, true, of(ahead, wrong, good, good, good, wrong), api.ErrQuant)
		wantError(t, "cut off", s, 2, 2, true, ahead, api.ErrTrunc)
		wantError(t, "too few", s, 2, 2, true, of(ahead, more), api.ErrTrunc)
		wantError(t, "too few, and something", s, 2, 2, true, of(ahead, more, wrong), api.ErrTrunc)
	}
	_, n, err := trans.Decode(s, 2, 2, true, of(bytes.Repeat(good, 4), wrong))
	if err != api.OK || n != 4*len(good) {
		t.Errorf("an error behind the last band: %d, %v", n, err)
	}
}

// What fills a byte up is passed over, whatever it is.
func TestWhatFillsUp(t *testing.T) {
	s := plain(api.Haar, 0)
	for size := 1; size < 40; size++ {
		for q := range 61 {
			bits := code(size) + code(q)
			b := of(bits, bytes.Repeat([]byte{0x2a}, size))
			want, n, _ := decoded(s, 2, 1, false, b)
			up := bits + strings.Repeat("1", (8-len(bits)%8)%8)
			wantDecode(t, "ones", s, 2, 1, false, of(up, bytes.Repeat([]byte{0x2a}, size)), want.V, n)
		}
	}
	for up := 0x80; up < 0x100; up++ {
		wantDecode(t, "without data", s, 2, 1, false, []byte{byte(up), byte(up)}, []int{0, 0}, 1)
	}
}

// What a band without data tells are noughts: no quantiser is read, and nothing is foretold by it.
func TestBandsWithoutData(t *testing.T) {
	for depth := range mostDepth + 1 {
		s := plain(api.Haar, depth)
		s.Multi = true
		side := 1 << depth
		count := 3*depth + 1
		all := bytes.Repeat([]byte{0x80}, count)
		wantDecode(t, "without", s, side, side, false, append(slices.Clone(all), "\xff\x00"...), make([]int, side*side), count)
		for i := range count {
			b := slices.Concat(all[:i], of(code(1)+code(0), []byte{0}), all[i+1:])
			want, n, err := decoded(s, side, side, false, b)
			if err != api.OK || n != len(b) {
				t.Fatalf("%x: %d, %v", b, n, err)
			}
			wantDecode(t, "one with", s, side, side, false, b, want.V, n)
		}
	}
}

// Data that mean noughts are a parent of noughts, as none are.
func TestDataOfNoughts(t *testing.T) {
	s := plain(api.Haar, 2)
	child := []byte{0x5a, 0x7f, 0x31}
	none := of("1", "1", "1", "1", code(3)+code(2), child, "1", "1")
	some := of("1", code(2)+code(60), []byte{0x80, 0}, "1", "1", code(3)+code(2), child, "1", "1")
	want, _, _ := decoded(s, 4, 4, true, none)
	wantDecode(t, "none", s, 4, 4, true, none, want.V, len(none))
	wantDecode(t, "some", s, 4, 4, true, some, want.V, len(some))
}

func TestDecodeOfAnyBytes(t *testing.T) {
	s := seeded(7)
	found := map[api.Errno]int{}
	for i := range 3000 {
		depth := s.one(0, 0, 0, 1, 1, 2, 3, 6)
		w, h := s.sides(depth)
		b := make([]byte, s.below(60))
		for k := range b {
			b[k] = byte(s.one(0, 255, 0x80, 0x80, 0x80, 0x30, 0x48, 0x0b, 0x2a, 0xa4, s.next(), s.next()))
		}
		found[wantDecodeByTheWords(t, fmt.Sprint("bytes ", i), s.shape(depth), w, h, s.yes(), b)]++
	}
	if len(found) != 3 || found[api.OK] < 100 || found[api.ErrTrunc] < 100 || found[api.ErrQuant] < 100 {
		t.Errorf("drawn: %v", found)
	}
}

func TestDecodeOfBytesThatAreChanged(t *testing.T) {
	s := seeded(8)
	for i := range 1500 {
		a := s.anySample()
		b := encoded(a).bytes
		for range s.below(3) + 1 {
			b[s.below(len(b))] ^= byte(1 << s.below(8))
		}
		wantDecodeByTheWords(t, fmt.Sprint("changed ", i), a.s, a.p.W, a.p.H, a.inter, b)
	}
}

// P15.4: both ways, and without loss.

func TestWhatIsEncodedIsDecoded(t *testing.T) {
	s := seeded(9)
	for i := range 800 {
		a := s.anySample()
		b, r := trans.Encode(a.s, a.p, a.inter, a.qs, a.shifts)
		for _, behind := range [][]byte{{0}, {0x80}, b} {
			wantDecode(t, fmt.Sprint("sample ", i), a.s, a.p.W, a.p.H, a.inter, slices.Concat(b, behind), r.V, len(b))
		}
	}
}

func TestOneBehindTheOther(t *testing.T) {
	s := seeded(10)
	var all []byte
	var list []sample
	for range 12 {
		a := s.anySample()
		list = append(list, a)
		all = append(all, mustEncode(a)...)
	}
	for i, a := range list {
		_, want := trans.Encode(a.s, a.p, a.inter, a.qs, a.shifts)
		got, n, err := trans.Decode(a.s, a.p.W, a.p.H, a.inter, all)
		if err != api.OK {
			t.Fatalf("%d: %v", i, err)
		}
		wantPlane(t, fmt.Sprint("behind ", i), got, a.p.W, a.p.H, want.V)
		all = all[n:]
	}
	if len(all) != 0 {
		t.Errorf("%d bytes are left", len(all))
	}
}

// wantWithoutLoss: what comes back is what was handed in.
func wantWithoutLoss(t *testing.T, what string, a sample) {
	t.Helper()
	b, r := trans.Encode(a.s, a.p, a.inter, a.qs, a.shifts)
	wantPlane(t, what+": Encode", r, a.p.W, a.p.H, a.p.V)
	wantDecode(t, what, a.s, a.p.W, a.p.H, a.inter, append(b, 7), a.p.V, len(b))
}

func TestWithoutLoss(t *testing.T) {
	s := seeded(11)
	ends := []int{1 << 39, -1 << 39, 1<<39 - 1, 1 - 1<<39, 0}
	for depth := range mostDepth + 1 {
		for i := range 80 / (depth + 1) {
			a := s.sample(depth, s.one(quiet, small, wide, wide))
			a.shifts = nil
			a.qs = [][]int{nil, {0}, {-1}, {0, 0, 0}, {least, -7, 0}, {0, -1, least, -60}}[i%6]
			if i%4 == 3 {
				for k := range a.p.V {
					a.p.V[k] = s.one(ends...)
				}
			}
			wantWithoutLoss(t, fmt.Sprint("depth ", depth, ", ", i), a)
			a.p = full(a.p.W, a.p.H, ends[i%5])
			wantWithoutLoss(t, "the ends", a)
		}
	}
}

// The transform of a picture, by each filter, there and back.
func TestPicturesWithoutLoss(t *testing.T) {
	s := seeded(12)
	for _, f := range filters() {
		for depth := range mostDepth + 1 {
			shape := s.shape(depth)
			shape.Filter = f
			p := noughts(64, 64)
			for i := range p.V {
				p.V[i] = s.below(1<<16) - 1<<15
			}
			for _, inter := range []bool{false, true} {
				b := mustEncode(sample{shape, wave.Forward(f, p, depth), inter, nil, nil})
				r, n, err := trans.Decode(shape, 64, 64, inter, b)
				if err != api.OK || n != len(b) {
					t.Fatalf("filter %d, depth %d: %d, %v", f, depth, n, err)
				}
				wantPlane(t, "picture", wave.Inverse(f, r, depth), 64, 64, p.V)
			}
		}
	}
}

// What is handed in, and what is answered.

// roomy copy of a list, with something in its spare room.
func roomy[T any](list []T, spare T) []T {
	return append(slices.Clone(list), spare, spare)[:len(list)]
}

// wantRoomy: is it still such a copy?
func wantRoomy[T any](t *testing.T, what string, got, list []T, spare T) {
	t.Helper()
	if room := append(slices.Clone(list), spare, spare); fmt.Sprint(got[:len(room)]) != fmt.Sprint(room) {
		t.Fatalf("%s: %v, not %v", what, got[:len(room)], room)
	}
}

func TestWhatIsHandedInStaysAsItWas(t *testing.T) {
	s := seeded(13)
	for range 150 {
		a := s.anySample()
		v, qs := roomy(a.p.V, 11), roomy(a.qs, 22)
		var lists [][]int
		for _, list := range a.shifts {
			lists = append(lists, roomy(list, 33))
		}
		shifts := roomy(lists, []int{44})
		b, r := trans.Encode(a.s, api.Plane{W: a.p.W, H: a.p.H, V: v}, a.inter, qs, shifts)
		spoil(r.V)
		told := roomy(b, 0x80)
		r, _, _ = trans.Decode(a.s, a.p.W, a.p.H, a.inter, told)
		spoil(r.V)
		wantRoomy(t, "numbers", v, a.p.V, 11)
		wantRoomy(t, "quantisers", qs, a.qs, 22)
		wantRoomy(t, "shifts", shifts, a.shifts, []int{44})
		for i, list := range lists {
			wantRoomy(t, "shifts of a band", list, a.shifts[i], 33)
		}
		wantRoomy(t, "bytes", told, b, 0x80)
	}
}

// spoil a list, its spare room too.
func spoil(v []int) {
	v = v[:cap(v)]
	for i := range v {
		v[i] = -77
	}
}

func spoilBytes(b []byte) {
	b = b[:cap(b)]
	for i := range b {
		b[i] = 77
	}
}

func TestAnswersAreNewMemory(t *testing.T) {
	s := seeded(14)
	for range 100 {
		a := s.anySample()
		want := encoded(a)
		b, r := trans.Encode(a.s, a.p, a.inter, a.qs, a.shifts)
		x, n, err := trans.Decode(a.s, a.p.W, a.p.H, a.inter, want.bytes)
		y, _, _ := trans.Decode(a.s, a.p.W, a.p.H, a.inter, want.bytes)
		spoil(r.V)
		spoil(y.V)
		if !bytes.Equal(b, want.bytes) || n != len(want.bytes) || err != api.OK {
			t.Fatalf("%+v: the bytes share memory", a.s)
		}
		wantPlane(t, "beside another answer", x, a.p.W, a.p.H, want.back.V)
		_, r = trans.Encode(a.s, a.p, a.inter, a.qs, a.shifts)
		spoilBytes(b)
		wantPlane(t, "beside spoilt bytes", r, a.p.W, a.p.H, want.back.V)
		wantBoth(t, "once more", a, want.bytes, want.back.V)
	}
}

// One memory may be the plane, the quantisers and the shifts.
func TestOneListMayBeAll(t *testing.T) {
	s := seeded(15)
	for range 50 {
		shape := s.shape(1)
		p := s.drawn(8, 8, quiet)
		separate := sample{shape, p, false, slices.Clone(p.V), [][]int{slices.Clone(p.V), slices.Clone(p.V)}}
		want := encoded(separate)
		wantBoth(t, "all", sample{shape, p, false, p.V, [][]int{p.V, p.V}}, want.bytes, want.back.V)
	}
}

func FuzzDecodeOfAnyBytes(f *testing.F) {
	f.Add(0, 3, 1, 1, 1, false, []byte{0x80})
	f.Add(1, 2, 8, 4, 3, true, []byte("any bytes that there are"))
	f.Add(5, 7, 0, 1025, 65, false, []byte{})
	f.Add(4, 1, 4, 4, 2, true, []byte{0x30, 0x00, 0x80, 0x2a, 0xa4, 0x40})
	f.Fuzz(func(t *testing.T, filter, depth, w, h, parts int, inter bool, b []byte) {
		s := api.Shape{Filter: api.Filter(filter), Depth: depth, Multi: parts%2 == 1}
		for level := range s.Across {
			s.Across[level], s.Down[level] = parts, parts
		}
		if !trans.Right(s) || len(bands.List(w, h, depth)) == 0 {
			wantError(t, "fuzz", s, w, h, inter, b, api.ErrArg)
			return
		}
		if w*h <= 4096 {
			wantDecodeByTheWords(t, "fuzz", s, w, h, inter, b)
		}
	})
}

func FuzzAnySample(f *testing.F) {
	f.Add(1)
	f.Add(77)
	f.Fuzz(func(t *testing.T, seed int) {
		wantByTheWords(t, fmt.Sprint("seed ", seed), seeded(seed).anySample())
	})
}
