package bits_test

import (
	"bytes"
	"math"
	"strings"
	"testing"

	"shingle/bits"
)

// packed is what bytes a text of 0s and 1s means (others are left out), told by another way than the package's.
func packed(text string) []byte {
	text = digits(text)
	for len(text)%8 != 0 {
		text += "0"
	}
	var out []byte
	for ; text != ""; text = text[8:] {
		v := 0
		for _, c := range text[:8] {
			v = 2*v + int(c-'0')
		}
		out = append(out, byte(v))
	}
	return out
}

// digits of a text without the room between them.
func digits(text string) string { return strings.ReplaceAll(text, " ", "") }

// lowest n binary digits of v, the greatest first.
func lowest(v uint64, n int) string {
	text := ""
	for range n {
		text = string(rune('0'+v%2)) + text
		v /= 2
	}
	return text
}

// value of binary digits.
func value(text string) uint64 {
	var v uint64
	for _, c := range text {
		v = 2*v + uint64(c-'0')
	}
	return v
}

// wantWriter holds a writer against the bits that it should have.
func wantWriter(t *testing.T, what string, w *bits.Writer, text string) {
	t.Helper()
	if got, want := w.Len(), len(digits(text)); got != want {
		t.Errorf("%s: Len %d, not %d", what, got, want)
	}
	if got, want := w.Bytes(), packed(text); !bytes.Equal(got, want) {
		t.Errorf("%s: Bytes %x, not %x", what, got, want)
	}
}

// wantReader holds a reader against where it should be.
func wantReader(t *testing.T, what string, r *bits.Reader, at, left, over int) {
	t.Helper()
	if r.At() != at || r.Left() != left || r.Over() != over {
		t.Errorf("%s: At %d, Left %d, Over %d, not %d, %d, %d", what, r.At(), r.Left(), r.Over(), at, left, over)
	}
}

// source of numbers for the tests, the same in each run.
type source uint64

func (s *source) next() uint64 {
	*s ^= *s << 13
	*s ^= *s >> 7
	*s ^= *s << 17
	return uint64(*s)
}

// P1.1: the writer.

func TestWriterOfNoBits(t *testing.T) {
	var w bits.Writer
	wantWriter(t, "zero", &w, "")
	w.Align()
	wantWriter(t, "zero, aligned", &w, "")
	w.Put(math.MaxUint64, 0)
	wantWriter(t, "zero, Put of none", &w, "")
}

func TestWriterBit(t *testing.T) {
	var w bits.Writer
	text := ""
	for _, c := range "1011000111010000101" {
		w.Bit(c == '1')
		text += string(c)
		wantWriter(t, text, &w, text)
	}
}

func TestWriterPutsTheLowestBitsGreatestFirst(t *testing.T) {
	var w bits.Writer
	w.Put(5, 3)
	w.Put(1, 2)
	wantWriter(t, "example", &w, "101 01")
	if got := w.Bytes(); !bytes.Equal(got, []byte{0xa8}) {
		t.Errorf("example: %x", got)
	}
	w.Put(0xabc5, 4)
	wantWriter(t, "more bits in v than n", &w, "101 01 0101")
	w.Put(1, 10)
	wantWriter(t, "noughts ahead", &w, "101 01 0101 0000000001")
}

func TestWriterPutOfEachWidth(t *testing.T) {
	for _, v := range []uint64{0, 1, 0x8000000000000001, 0x0123456789abcdef, math.MaxUint64} {
		for ahead := range 9 {
			for n := range 65 {
				var w bits.Writer
				w.Put(math.MaxUint64, ahead)
				w.Put(v, n)
				w.Bit(true)
				wantWriter(t, "Put", &w, lowest(math.MaxUint64, ahead)+lowest(v, n)+"1")
			}
		}
	}
}

func TestWriterPutOfWidthsOutside(t *testing.T) {
	for _, n := range []int{-1, -8, -64, -65, math.MinInt} {
		var w bits.Writer
		w.Put(math.MaxUint64, n)
		wantWriter(t, "n below 0", &w, "")
		w.Put(5, 3)
		w.Put(math.MaxUint64, n)
		wantWriter(t, "n below 0, behind others", &w, "101")
	}
	for _, n := range []int{64, 65, 72, 128, 1 << 32, math.MaxInt} {
		var w bits.Writer
		w.Bit(true)
		w.Put(0x8123456789abcdef, n)
		wantWriter(t, "n from 64 on", &w, "1"+lowest(0x8123456789abcdef, 64))
	}
}

func TestWriterAlign(t *testing.T) {
	for n := range 26 {
		var w bits.Writer
		ones := strings.Repeat("1", n)
		w.Put(math.MaxUint64, n)
		full := ones + strings.Repeat("0", (8-n%8)%8)
		w.Align()
		wantWriter(t, "Align", &w, full)
		w.Align()
		wantWriter(t, "Align with nothing to fill", &w, full)
		w.Put(5, 3)
		wantWriter(t, "Put behind Align", &w, full+"101")
	}
}

func TestWriterStaysAsItIsByBytes(t *testing.T) {
	var w bits.Writer
	w.Put(0x1f, 5)
	for range 3 {
		wantWriter(t, "Bytes of a part", &w, "11111")
	}
	w.Put(2, 2)
	wantWriter(t, "behind Bytes", &w, "11111 10")
	w.Put(3, 2)
	wantWriter(t, "over the byte's end", &w, "11111 10 11")
	w.Align()
	wantWriter(t, "aligned", &w, "11111 10 1 10000000")
}

func TestBytesAreNewMemory(t *testing.T) {
	var w bits.Writer
	w.Put(0x5a5, 12)
	first, second := w.Bytes(), w.Bytes()
	for _, b := range [][]byte{first[:cap(first)], second[:cap(second)]} {
		for i := range b {
			b[i] = 0xff
		}
		wantWriter(t, "the answer was changed", &w, "0101 1010 0101")
	}
	first, second = w.Bytes(), w.Bytes()
	first[0] = 0
	if second[0] != 0x5a {
		t.Errorf("two answers share memory: %x", second)
	}
}

func TestBytesStayAsTheyWere(t *testing.T) {
	var w bits.Writer
	var answers [][]byte
	var before []string
	keep := func() {
		b := w.Bytes()
		answers = append(answers, b)
		before = append(before, string(b[:cap(b)]))
	}
	for i := range 40 {
		w.Put(math.MaxUint64, i%11)
		keep()
		if i%3 == 0 {
			w.Align()
			keep()
		}
	}
	for i, b := range answers {
		if string(b[:cap(b)]) != before[i] {
			t.Errorf("answer %d was %x, is %x", i, before[i], b[:cap(b)])
		}
	}
}

func TestNilWriter(t *testing.T) {
	var w *bits.Writer
	check := func(what string) {
		t.Helper()
		wantWriter(t, what, w, "")
	}
	check("nil")
	w.Bit(true)
	check("Bit")
	w.Put(math.MaxUint64, 64)
	w.Put(5, -3)
	w.Put(5, 99)
	check("Put")
	w.Align()
	check("Align")
}

// P1.2: the reader.

func TestReaderBit(t *testing.T) {
	text := "10110001 11010000 00000001"
	r := bits.New(packed(text))
	wantReader(t, "new", r, 0, 24, 0)
	for i, c := range digits(text) {
		if got := r.Bit(); got != (c == '1') {
			t.Errorf("bit %d: %v", i, got)
		}
		wantReader(t, "Bit", r, i+1, 23-i, 0)
	}
	for i := range 20 {
		if r.Bit() {
			t.Errorf("a 1 past the end")
		}
		wantReader(t, "Bit past the end", r, 25+i, 0, 1+i)
	}
}

func TestReaderGetOfEachWidth(t *testing.T) {
	b := []byte("\x81\x23\x45\x67\x89\xab\xcd\xef\xff")
	text := ""
	for _, c := range b {
		text += lowest(uint64(c), 8)
	}
	for ahead := range 9 {
		for n := range 65 {
			r := bits.New(b)
			r.Get(ahead)
			if got, want := r.Get(n), value(text[ahead:ahead+n]); got != want {
				t.Errorf("Get(%d) behind %d: %x, not %x", n, ahead, got, want)
			}
			wantReader(t, "Get", r, ahead+n, 72-ahead-n, 0)
		}
	}
}

func TestReaderGetOfWidthsOutside(t *testing.T) {
	b := []byte("\xf1\x23\x45\x67\x89\xab\xcd\xef\xff\xff")
	for _, n := range []int{-1, -8, -64, -65, math.MinInt} {
		r := bits.New(b)
		r.Bit()
		if got := r.Get(n); got != 0 {
			t.Errorf("Get(%d): %x", n, got)
		}
		wantReader(t, "n below 0", r, 1, 79, 0)
	}
	for _, n := range []int{64, 65, 72, 128, 1 << 32, math.MaxInt} {
		r := bits.New(b)
		if got := r.Get(n); got != 0xf123456789abcdef {
			t.Errorf("Get(%d): %x", n, got)
		}
		wantReader(t, "n from 64 on", r, 64, 16, 0)
	}
}

func TestReaderGetUpToAndPastTheEnd(t *testing.T) {
	r := bits.New([]byte{0xff, 0xff})
	if got := r.Get(16); got != 0xffff {
		t.Errorf("up to the end: %x", got)
	}
	wantReader(t, "up to the end", r, 16, 0, 0)
	if got := r.Get(0); got != 0 {
		t.Errorf("none at the end: %x", got)
	}
	wantReader(t, "none at the end", r, 16, 0, 0)
	if got := r.Get(3); got != 0 {
		t.Errorf("past the end: %x", got)
	}
	wantReader(t, "past the end", r, 19, 0, 3)

	r = bits.New([]byte{0xff, 0xff})
	r.Get(10)
	if got := r.Get(9); got != 0x1f8 {
		t.Errorf("over the end: %x", got)
	}
	wantReader(t, "over the end", r, 19, 0, 3)
	if got := r.Get(1000); got != 0 {
		t.Errorf("far past the end: %x", got)
	}
	wantReader(t, "far past the end", r, 83, 0, 67)
	r.Get(-1000)
	wantReader(t, "none past the end", r, 83, 0, 67)
}

func TestReaderAlign(t *testing.T) {
	for n := range 33 {
		r := bits.New([]byte{0xff, 0x12, 0x34, 0x56})
		r.Get(n)
		next := (n + 7) / 8 * 8
		r.Align()
		wantReader(t, "Align", r, next, 32-next, 0)
		r.Align()
		wantReader(t, "Align with nothing to go over", r, next, 32-next, 0)
	}
	r := bits.New([]byte{0xff, 0x12})
	r.Get(3)
	r.Align()
	if got := r.Get(8); got != 0x12 {
		t.Errorf("behind Align: %x", got)
	}
}

func TestReaderAlignPastTheEndTellsNoNoughts(t *testing.T) {
	r := bits.New([]byte{0xff})
	r.Get(8)
	r.Align()
	wantReader(t, "at the end", r, 8, 0, 0)
	r.Get(3)
	r.Align()
	wantReader(t, "past the end", r, 16, 0, 3)
	r.Align()
	wantReader(t, "past the end, again", r, 16, 0, 3)
	if r.Bit() {
		t.Errorf("a 1 past the end")
	}
	wantReader(t, "Bit behind Align", r, 17, 0, 4)
	r.Align()
	wantReader(t, "Align behind Bit", r, 24, 0, 4)
}

func TestReaderOfNoBytes(t *testing.T) {
	for _, b := range [][]byte{nil, {}} {
		r := bits.New(b)
		if r == nil {
			t.Fatal("New answered nil")
		}
		wantReader(t, "new", r, 0, 0, 0)
		r.Align()
		wantReader(t, "Align", r, 0, 0, 0)
		if r.Bit() || r.Get(64) != 0 {
			t.Errorf("a 1 of no bytes")
		}
		wantReader(t, "behind Get", r, 65, 0, 65)
	}
}

func TestReaderKeepsNothingThatItIsHanded(t *testing.T) {
	room := []byte{0x12, 0x34, 0x56, 0x78}
	r := bits.New(room[:2])
	r.Get(4)
	for i := range room {
		room[i] = 0xff
	}
	if got := r.Get(12); got != 0x234 {
		t.Errorf("what was handed in is kept: %x", got)
	}
	if got := r.Get(16); got != 0 {
		t.Errorf("the room behind is read: %x", got)
	}
}

func TestReaderChangesNothingThatItIsHanded(t *testing.T) {
	room := []byte{0x12, 0x34, 0x56, 0x78}
	r := bits.New(room[:2])
	r.Bit()
	r.Get(5)
	r.Align()
	r.Get(40)
	r.Align()
	if !bytes.Equal(room, []byte{0x12, 0x34, 0x56, 0x78}) {
		t.Errorf("what was handed in is changed: %x", room)
	}
}

func TestReadersAreApart(t *testing.T) {
	b := []byte{0xa5, 0xc3}
	one, two := bits.New(b), bits.New(b)
	one.Get(12)
	one.Align()
	one.Get(7)
	wantReader(t, "the other one", two, 0, 16, 0)
	if got := two.Get(16); got != 0xa5c3 {
		t.Errorf("the other one: %x", got)
	}
}

func TestNilReader(t *testing.T) {
	var r *bits.Reader
	check := func(what string) {
		t.Helper()
		wantReader(t, what, r, 0, 0, 0)
	}
	check("nil")
	if r.Bit() {
		t.Errorf("Bit of nil")
	}
	check("Bit")
	for _, n := range []int{-1, 0, 1, 64, 65} {
		if got := r.Get(n); got != 0 {
			t.Errorf("Get(%d) of nil: %x", n, got)
		}
	}
	check("Get")
	r.Align()
	check("Align")
}

// P1.3: what was written is read.

// call of a writer, and of a reader the same: a bit, some bits, or an alignment.
type call struct {
	kind int
	v    uint64
	n    int
}

// calls made up by a source; widths go beyond both ends.
func calls(s *source, count int) []call {
	out := make([]call, count)
	for i := range out {
		out[i] = call{int(s.next() % 8), s.next(), int(s.next()%80) - 8}
	}
	return out
}

// write the calls, and tell the digits that they mean.
func write(w *bits.Writer, list []call) string {
	var text strings.Builder
	for _, c := range list {
		switch c.kind {
		case 0:
			w.Align()
			text.WriteString(strings.Repeat("0", (8-text.Len()%8)%8))
		case 1, 2:
			w.Bit(c.v&1 == 1)
			text.WriteString(lowest(c.v, 1))
		default:
			w.Put(c.v, c.n)
			text.WriteString(lowest(c.v, min(max(c.n, 0), 64)))
		}
	}
	return text.String()
}

// readBack what the calls wrote.
func readBack(t *testing.T, r *bits.Reader, list []call) {
	t.Helper()
	for i, c := range list {
		switch c.kind {
		case 0:
			r.Align()
		case 1, 2:
			if got := r.Bit(); got != (c.v&1 == 1) {
				t.Fatalf("call %d: Bit %v", i, got)
			}
		default:
			want := value(lowest(c.v, min(max(c.n, 0), 64)))
			if got := r.Get(c.n); got != want {
				t.Fatalf("call %d: Get(%d) %x, not %x", i, c.n, got, want)
			}
		}
	}
}

func TestWhatWasWrittenIsRead(t *testing.T) {
	s := source(0x9e3779b97f4a7c15)
	for round := range 300 {
		list := calls(&s, round%60)
		var w bits.Writer
		text := write(&w, list)
		wantWriter(t, "written", &w, text)
		r := bits.New(w.Bytes())
		readBack(t, r, list)
		wantReader(t, "read", r, len(text), (8-len(text)%8)%8, 0)
		if got := r.Get(64); got != 0 {
			t.Fatalf("round %d: behind it all %x", round, got)
		}
	}
}

func TestBitsReadAsWrittenInOtherPieces(t *testing.T) {
	s := source(0x2545f4914f6cdd1d)
	for range 200 {
		var w bits.Writer
		text := write(&w, calls(&s, 30))
		r := bits.New(w.Bytes())
		for at := 0; at < len(text); {
			n := min(int(s.next()%65), len(text)-at)
			if got, want := r.Get(n), value(text[at:at+n]); got != want {
				t.Fatalf("Get(%d) at %d: %x, not %x", n, at, got, want)
			}
			at += n
		}
		wantReader(t, "read", r, len(text), len(w.Bytes())*8-len(text), 0)
	}
}

func FuzzReader(f *testing.F) {
	f.Add([]byte{0xa8}, []byte{3, 2, 70, 255})
	f.Add([]byte{}, []byte{64})
	f.Fuzz(func(t *testing.T, b, widths []byte) {
		text := ""
		for _, c := range b {
			text += lowest(uint64(c), 8)
		}
		r := bits.New(b)
		at, over := 0, 0
		for _, c := range widths {
			if c == 255 {
				r.Align()
				at = (at + 7) / 8 * 8
				continue
			}
			n := min(max(int(c)-20, 0), 64)
			have := min(max(len(text)-at, 0), n)
			var want uint64
			if have > 0 {
				want = value(text[at:at+have] + strings.Repeat("0", n-have))
			}
			at, over = at+n, over+n-have
			if got := r.Get(int(c) - 20); got != want {
				t.Fatalf("Get(%d): %x, not %x", int(c)-20, got, want)
			}
			wantReader(t, "Get", r, at, max(len(text)-at, 0), over)
		}
	})
}
