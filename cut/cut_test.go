package cut_test

import (
	"bytes"
	"encoding/binary"
	"math"
	"strconv"
	"testing"

	"shingle/cut"
)

// run of n bytes, none like the one 256 places on, none of the first ones 0.
func run(n int) []byte {
	b := make([]byte, n)
	for i := range b {
		b[i] = byte(7*i + 3 + i/256)
	}
	return b
}

// tooMany for a cursor with that many bytes ahead: one too few are there, and as far from it as it goes.
func tooMany(left int) []int {
	return []int{left + 1, left + 2, left + 256, 1 << 31, 1 << 32, 1 << 62, math.MaxInt - 1, math.MaxInt}
}

// below 0, to the least int.
func below() []int {
	return []int{-1, -2, -4, -256, -1 << 31, -1 << 32, -1 << 62, math.MinInt + 1, math.MinInt}
}

// wantAt holds a cursor against how many bytes are behind it and ahead.
func wantAt(t *testing.T, what string, c *cut.Cursor, at, left int) {
	t.Helper()
	if c.At() != at || c.Left() != left {
		t.Errorf("%s: at %d, left %d, not %d and %d", what, c.At(), c.Left(), at, left)
	}
}

// wantNumber holds what Byte or Word answered against a number.
func wantNumber(t *testing.T, what string, get func() (int, bool), v int, ok bool) {
	t.Helper()
	if gotV, gotOK := get(); gotV != v || gotOK != ok {
		t.Errorf("%s: %d, %v, not %d, %v", what, gotV, gotOK, v, ok)
	}
}

// wantTaken holds what Take answers against bytes.
func wantTaken(t *testing.T, what string, c *cut.Cursor, n int, b []byte) {
	t.Helper()
	if got, ok := c.Take(n); !ok || !bytes.Equal(got, b) {
		t.Errorf("%s: Take(%d): %x, %v, not %x", what, n, got, ok, b)
	}
}

// wantRefused: neither Take nor Sub tell n bytes, and the cursor stays.
func wantRefused(t *testing.T, what string, c *cut.Cursor, n int) {
	t.Helper()
	at, left := c.At(), c.Left()
	if b, ok := c.Take(n); len(b) != 0 || ok {
		t.Errorf("%s: Take(%d): %x, %v", what, n, b, ok)
	}
	wantAt(t, what+": Take", c, at, left)
	if s, ok := c.Sub(n); s != nil || ok {
		t.Errorf("%s: Sub(%d): %v, %v", what, n, s, ok)
	}
	wantAt(t, what+": Sub", c, at, left)
}

// wantWritten holds a pen against the bytes that it should have.
func wantWritten(t *testing.T, what string, p *cut.Pen, b []byte) {
	t.Helper()
	if got := p.Bytes(); !bytes.Equal(got, b) || p.Len() != len(b) {
		t.Errorf("%s: %d bytes %x, not %x", what, p.Len(), got, b)
	}
}

// filled pen of b.
func filled(b []byte) *cut.Pen {
	p := &cut.Pen{}
	p.Add(b)
	return p
}

// spoil a list that was answered or handed in, its spare room too.
func spoil(b []byte) {
	b = b[:cap(b)]
	for i := range b {
		b[i] ^= 0x5a
	}
}

// P3.1: what cursors tell.

func TestNewIsAtTheFirstByte(t *testing.T) {
	for n := range 10 {
		wantAt(t, strconv.Itoa(n), cut.New(run(n)), 0, n)
	}
}

func TestByteTellsEach(t *testing.T) {
	b := run(600)
	c := cut.New(b)
	for i, v := range b {
		wantAt(t, "ahead of a byte", c, i, len(b)-i)
		wantNumber(t, strconv.Itoa(i), c.Byte, int(v), true)
	}
	for range 3 {
		wantNumber(t, "past the end", c.Byte, 0, false)
		wantAt(t, "past the end", c, len(b), 0)
	}
}

func TestByteOfEachValue(t *testing.T) {
	for v := range 256 {
		wantNumber(t, strconv.Itoa(v), cut.New([]byte{byte(v)}).Byte, v, true)
	}
}

func TestWordTellsFourBytes(t *testing.T) {
	b := run(403)
	c := cut.New(b)
	for i := 0; i+4 <= len(b); i += 4 {
		wantAt(t, "ahead of a word", c, i, len(b)-i)
		wantNumber(t, strconv.Itoa(i), c.Word, int(binary.BigEndian.Uint32(b[i:])), true)
	}
	for range 3 {
		wantNumber(t, "three bytes", c.Word, 0, false)
		wantAt(t, "three bytes", c, 400, 3)
	}
	wantTaken(t, "behind a false", c, 3, b[400:])
}

func TestWordOfSomeValues(t *testing.T) {
	for text, v := range map[string]int{
		"\x00\x00\x00\x00": 0, "\x00\x00\x00\x01": 1, "\x00\x00\x01\x02": 258, "\x01\x00\x00\x00": 1 << 24,
		"\x7f\xff\xff\xff": 1<<31 - 1, "\x80\x00\x00\x00": 1 << 31, "\xff\xff\xff\xff": 1<<32 - 1, "\xff\xfe\xfd\xfc": 0xfffefdfc,
	} {
		c := cut.New([]byte(text))
		wantNumber(t, strconv.Itoa(v), c.Word, v, true)
		wantAt(t, strconv.Itoa(v), c, 4, 0)
	}
}

func TestWordWithTooFewBytes(t *testing.T) {
	for n := range 4 {
		c := cut.New(run(n))
		wantNumber(t, strconv.Itoa(n), c.Word, 0, false)
		wantAt(t, strconv.Itoa(n), c, 0, n)
		wantTaken(t, "behind a false", c, n, run(n))
	}
}

func TestTakeEachPiece(t *testing.T) {
	b := run(12)
	for from := range 13 {
		for to := from; to <= 12; to++ {
			c := cut.New(b)
			wantTaken(t, "ahead", c, from, b[:from])
			wantTaken(t, "a piece", c, to-from, b[from:to])
			wantAt(t, "behind a piece", c, to, 12-to)
			wantTaken(t, "the rest", c, 12-to, b[to:])
			wantAt(t, "the end", c, 12, 0)
		}
	}
}

func TestSubOfEachPiece(t *testing.T) {
	b := run(12)
	for from := range 13 {
		for to := from; to <= 12; to++ {
			c := cut.New(b)
			wantTaken(t, "ahead", c, from, b[:from])
			s, ok := c.Sub(to - from)
			if s == nil || !ok {
				t.Fatalf("Sub(%d): %v, %v", to-from, s, ok)
			}
			wantAt(t, "behind a piece", c, to, 12-to)
			wantAt(t, "the piece", s, 0, to-from)
			for _, v := range b[from:to] {
				wantNumber(t, "in the piece", s.Byte, int(v), true)
			}
			wantNumber(t, "past the piece", s.Byte, 0, false)
			wantRefused(t, "past the piece", s, 1)
			wantAt(t, "the piece's end", s, to-from, 0)
			wantAt(t, "behind it still", c, to, 12-to)
			wantTaken(t, "the rest", c, 12-to, b[to:])
		}
	}
}

func TestSubOfASub(t *testing.T) {
	b := run(20)
	c := cut.New(b)
	c.Take(2)
	s, _ := c.Sub(10)
	s.Byte()
	in, ok := s.Sub(5)
	if !ok {
		t.Fatal("Sub(5): false")
	}
	wantAt(t, "innermost", in, 0, 5)
	wantAt(t, "inner", s, 6, 4)
	wantAt(t, "outer", c, 12, 8)
	wantNumber(t, "innermost", in.Word, int(binary.BigEndian.Uint32(b[3:])), true)
	wantNumber(t, "innermost", in.Word, 0, false)
	wantRefused(t, "innermost", in, 2)
	wantNumber(t, "inner", s.Word, int(binary.BigEndian.Uint32(b[8:])), true)
	wantNumber(t, "outer", c.Word, int(binary.BigEndian.Uint32(b[12:])), true)
	wantTaken(t, "innermost", in, 1, b[7:8])
}

func TestCursorsDoNotMoveOneAnother(t *testing.T) {
	b := run(9)
	one, two := cut.New(b), cut.New(b)
	one.Take(4)
	wantAt(t, "the other", two, 0, 9)
	s, _ := one.Sub(3)
	one.Take(2)
	wantAt(t, "a piece", s, 0, 3)
	wantTaken(t, "a piece", s, 3, b[4:7])
	wantTaken(t, "the other", two, 9, b)
}

func TestNoSuchBytes(t *testing.T) {
	b := run(9)
	for at := range 10 {
		c := cut.New(b)
		c.Take(at)
		for _, n := range append(tooMany(9-at), below()...) {
			wantRefused(t, strconv.Itoa(at), c, n)
		}
		wantTaken(t, "behind them", c, 9-at, b[at:])
		for _, n := range append(tooMany(0), below()...) {
			wantRefused(t, "at the end", c, n)
		}
	}
}

func TestNoneOfBytes(t *testing.T) {
	for _, b := range [][]byte{nil, {}} {
		c := cut.New(b)
		if c == nil {
			t.Fatal("a cursor of no bytes is nil")
		}
		wantEmpty(t, c)
	}
	wantEmpty(t, &cut.Cursor{})
	s, _ := cut.New(run(3)).Sub(0)
	wantEmpty(t, s)
}

// wantEmpty: a cursor of no bytes, which 0 of them are told of.
func wantEmpty(t *testing.T, c *cut.Cursor) {
	t.Helper()
	wantAt(t, "of none", c, 0, 0)
	wantNumber(t, "of none", c.Byte, 0, false)
	wantNumber(t, "of none", c.Word, 0, false)
	for _, n := range append(tooMany(0), below()...) {
		wantRefused(t, "of none", c, n)
	}
	wantTaken(t, "of none", c, 0, nil)
	s, ok := c.Sub(0)
	if s == nil || !ok {
		t.Fatalf("of none: Sub(0): %v, %v", s, ok)
	}
	wantAt(t, "a piece of none", s, 0, 0)
	wantNumber(t, "a piece of none", s.Byte, 0, false)
	wantAt(t, "of none", c, 0, 0)
}

func TestNilCursor(t *testing.T) {
	var c *cut.Cursor
	wantEmpty(t, c)
}

func TestNewKeepsNothing(t *testing.T) {
	room := run(20)
	b := room[4:12:16]
	c := cut.New(b)
	spoil(room)
	wantAt(t, "of a piece", c, 0, 8)
	wantTaken(t, "of a piece", c, 8, run(12)[4:])
	wantRefused(t, "of a piece", c, 1)
}

func TestCursorChangesNothing(t *testing.T) {
	room := run(20)
	c := cut.New(room[4:12:16])
	c.Byte()
	c.Word()
	s, _ := c.Sub(2)
	got, _ := s.Take(2)
	spoil(got)
	spoil(append(got, 1, 2, 3))
	got, _ = c.Take(1)
	spoil(got)
	if !bytes.Equal(room, run(20)) {
		t.Errorf("changed: %x", room)
	}
}

func TestTakenIsNewMemory(t *testing.T) {
	b := run(40)
	for n := range 21 {
		c := cut.New(b)
		first, _ := c.Take(n)
		second, _ := c.Take(n)
		spoil(first)
		if !bytes.Equal(second, b[n:2*n]) {
			t.Errorf("%d: spoilt by the one ahead of it: %x", n, second)
		}
		spoil(second)
		wantTaken(t, "the rest", c, 40-2*n, b[2*n:])
	}
}

func TestTakenOfASubIsNewMemory(t *testing.T) {
	b := run(30)
	c := cut.New(b)
	s, _ := c.Sub(10)
	got, _ := s.Take(3)
	spoil(got)
	wantTaken(t, "of the piece", s, 7, b[3:10])
	got, _ = c.Take(8)
	spoil(got)
	wantTaken(t, "the rest", c, 12, b[18:])
}

// P3.2: the bytes of any pen.

func TestZeroPen(t *testing.T) {
	var p cut.Pen
	wantWritten(t, "the zero Pen", &p, nil)
	if !p.Byte(9) || !p.Word(258) {
		t.Error("the zero Pen: false")
	}
	wantWritten(t, "no zero Pen", &p, []byte{9, 0, 0, 1, 2})
}

func TestExample(t *testing.T) {
	var p cut.Pen
	if !p.Word(258) {
		t.Error("Word(258): false")
	}
	wantWritten(t, "Word(258)", &p, []byte{0, 0, 1, 2})
}

func TestByteIsOneMore(t *testing.T) {
	var p cut.Pen
	var want []byte
	for v := 255; v >= 0; v-- {
		if !p.Byte(v) {
			t.Errorf("Byte(%d): false", v)
		}
		want = append(want, byte(v))
		wantWritten(t, strconv.Itoa(v), &p, want)
	}
}

func TestByteOfAnother(t *testing.T) {
	p := filled(run(5))
	for _, v := range append([]int{256, 257, 511, 512, 1 << 16, 1<<32 - 1, 1 << 32, 1 << 62, math.MaxInt}, below()...) {
		if p.Byte(v) {
			t.Errorf("Byte(%d): true", v)
		}
		wantWritten(t, strconv.Itoa(v), p, run(5))
	}
}

// words that may be, around each byte's edge.
func words() []int {
	out := []int{0, 1, 2, 258, 0x01020304, 0xdeadbeef, 1<<32 - 2, 1<<32 - 1}
	for i := 7; i < 32; i++ {
		out = append(out, 1<<i-1, 1<<i, 1<<i+1)
	}
	return out
}

// noWords that may not.
func noWords() []int {
	return append([]int{1 << 32, 1<<32 + 1, 1 << 33, 1<<40 + 5, 1 << 62, math.MaxInt - 1, math.MaxInt}, below()...)
}

func TestWordIsFourMore(t *testing.T) {
	var p cut.Pen
	var want []byte
	for _, v := range words() {
		if !p.Word(v) {
			t.Errorf("Word(%d): false", v)
		}
		want = binary.BigEndian.AppendUint32(want, uint32(v))
		wantWritten(t, strconv.Itoa(v), &p, want)
	}
}

func TestWordOfAnother(t *testing.T) {
	p := filled(run(5))
	for _, v := range noWords() {
		if p.Word(v) {
			t.Errorf("Word(%d): true", v)
		}
		wantWritten(t, strconv.Itoa(v), p, run(5))
	}
}

func TestAddIsTheseMore(t *testing.T) {
	var p cut.Pen
	var want []byte
	for n := range 40 {
		p.Add(run(n))
		want = append(want, run(n)...)
		wantWritten(t, strconv.Itoa(n), &p, want)
	}
	p.Add(nil)
	p.Add([]byte{})
	wantWritten(t, "none more", &p, want)
}

func TestPatchAtEachPlace(t *testing.T) {
	for size := range 13 {
		for at := 0; at+4 <= size; at++ {
			for _, v := range words() {
				p := filled(run(size))
				if !p.Patch(at, v) {
					t.Errorf("Patch(%d, %d) of %d bytes: false", at, v, size)
				}
				want := run(size)
				binary.BigEndian.PutUint32(want[at:], uint32(v))
				wantWritten(t, strconv.Itoa(at), p, want)
			}
		}
	}
}

func TestPatchWhereTheyAreNotAllThere(t *testing.T) {
	for size := range 9 {
		last := size - 4
		places := []int{max(last+1, 0), max(last+2, 0), size - 1, size, size + 1, 1 << 32, 1 << 62, math.MaxInt - 4, math.MaxInt - 3, math.MaxInt}
		for _, at := range append(places, below()...) {
			if at >= 0 && at <= last {
				continue
			}
			p := filled(run(size))
			if p.Patch(at, 0x41424344) {
				t.Errorf("Patch(%d) of %d bytes: true", at, size)
			}
			wantWritten(t, strconv.Itoa(at), p, run(size))
		}
	}
}

func TestPatchOfAnother(t *testing.T) {
	p := filled(run(8))
	for _, v := range noWords() {
		for _, at := range []int{0, 2, 4, 5, -1} {
			if p.Patch(at, v) {
				t.Errorf("Patch(%d, %d): true", at, v)
			}
			wantWritten(t, strconv.Itoa(v), p, run(8))
		}
	}
}

func TestPatchThenMore(t *testing.T) {
	var p cut.Pen
	p.Word(0)
	p.Byte(7)
	if !p.Patch(0, 0x01020304) || !p.Patch(1, 0xa0b0c0d0) {
		t.Error("Patch: false")
	}
	p.Byte(8)
	wantWritten(t, "behind a patch", &p, []byte{1, 0xa0, 0xb0, 0xc0, 0xd0, 8})
}

func TestNilPen(t *testing.T) {
	var p *cut.Pen
	for _, v := range append(words(), noWords()...) {
		for _, at := range []int{0, 1, -1, -4, math.MaxInt, math.MinInt} {
			if p.Byte(v) || p.Word(v) || p.Patch(at, v) {
				t.Errorf("a nil pen takes %d", v)
			}
		}
	}
	p.Add(run(5))
	p.Add(nil)
	wantWritten(t, "a nil pen", p, nil)
}

func TestAddKeepsAndChangesNothing(t *testing.T) {
	room := run(20)
	var p cut.Pen
	p.Add(room[4:12:16])
	p.Byte(1)
	p.Word(2)
	p.Patch(0, 0x01020304)
	if !bytes.Equal(room, run(20)) {
		t.Errorf("changed: %x", room)
	}
	spoil(room)
	want := append([]byte{1, 2, 3, 4}, run(12)[8:]...)
	wantWritten(t, "behind a spoilt list", &p, append(want, 1, 0, 0, 0, 2))
}

func TestBytesAreNewMemory(t *testing.T) {
	var p cut.Pen
	for n := range 40 {
		wantWritten(t, "ahead", &p, run(n))
		first, second := p.Bytes(), p.Bytes()
		spoil(first)
		if !bytes.Equal(second, run(n)) {
			t.Errorf("two answers share: %x", second)
		}
		wantWritten(t, "behind a spoilt answer", &p, run(n))
		p.Byte(int(run(n + 1)[n]))
		wantTold(t, second, run(n))
		p.Patch(0, 99)
		wantTold(t, second, run(n))
		spoil(second)
		p = *filled(run(n + 1))
	}
}

// wantTold: an answer stays as it was.
func wantTold(t *testing.T, got, want []byte) {
	t.Helper()
	if !bytes.Equal(got, want) {
		t.Errorf("an answer changed: %x, not %x", got, want)
	}
}

func TestAddItsOwnBytes(t *testing.T) {
	p := filled(run(7))
	p.Add(p.Bytes())
	wantWritten(t, "twice", p, append(run(7), run(7)...))
}

func TestPensDoNotShare(t *testing.T) {
	one, two := filled(run(6)), filled(run(6))
	one.Patch(1, 0)
	one.Byte(1)
	wantWritten(t, "the other", two, run(6))
}

// P3.3: what was written is read.

// dice tell a course of numbers that looks thrown, the same each time.
type dice uint64

func (d *dice) throw(n int) int {
	*d = *d*6364136223846793005 + 1442695040888963407
	return int(uint64(*d) >> 33 % uint64(n))
}

// item that is written to a pen, and read by a cursor.
type item struct {
	kind  int
	value int
	bytes []byte
}

// write an item.
func (i item) write(t *testing.T, p *cut.Pen) {
	t.Helper()
	switch i.kind {
	case 0:
		if !p.Byte(i.value) {
			t.Errorf("Byte(%d): false", i.value)
		}
	case 1:
		if !p.Word(i.value) {
			t.Errorf("Word(%d): false", i.value)
		}
	case 2:
		at := p.Len()
		p.Word(0)
		if !p.Patch(at, i.value) {
			t.Errorf("Patch(%d, %d): false", at, i.value)
		}
	default:
		p.Add(i.bytes)
	}
}

// read an item.
func (i item) read(t *testing.T, c *cut.Cursor) {
	t.Helper()
	switch i.kind {
	case 0:
		wantNumber(t, "a byte", c.Byte, i.value, true)
	case 1, 2:
		wantNumber(t, "a word", c.Word, i.value, true)
	case 3:
		wantTaken(t, "bytes", c, len(i.bytes), i.bytes)
	default:
		s, ok := c.Sub(len(i.bytes))
		if !ok {
			t.Errorf("Sub(%d): false", len(i.bytes))
		}
		wantTaken(t, "a piece", s, s.Left(), i.bytes)
	}
}

// thrown items, so many.
func thrown(d *dice, n int) []item {
	var out []item
	for range n {
		i := item{kind: d.throw(5)}
		switch {
		case i.kind == 0:
			i.value = d.throw(256)
		case i.kind < 3:
			i.value = d.throw(1<<16)<<16 | d.throw(1<<16)
		default:
			i.bytes = run(d.throw(30))
			k := d.throw(len(i.bytes) + 1)
			spoil(i.bytes[:k:k])
		}
		out = append(out, i)
	}
	return out
}

func TestWhatWasWrittenIsRead(t *testing.T) {
	var d dice = 1
	for n := range 60 {
		items := thrown(&d, n)
		var p cut.Pen
		for _, i := range items {
			i.write(t, &p)
		}
		c := cut.New(p.Bytes())
		for _, i := range items {
			i.read(t, c)
		}
		wantAt(t, "all of it", c, p.Len(), 0)
	}
}

func TestEachByteAndWordIsRead(t *testing.T) {
	var p cut.Pen
	for v := range 256 {
		p.Byte(v)
	}
	for _, v := range words() {
		p.Word(v)
	}
	c := cut.New(p.Bytes())
	for v := range 256 {
		wantNumber(t, "a byte", c.Byte, v, true)
	}
	for _, v := range words() {
		wantNumber(t, "a word", c.Word, v, true)
	}
	wantAt(t, "all of it", c, p.Len(), 0)
}

func TestWhatWasTakenIsWrittenAgain(t *testing.T) {
	b := run(300)
	c := cut.New(b)
	var p cut.Pen
	for n := 1; c.Left() > 0; n++ {
		got, _ := c.Take(min(n, c.Left()))
		p.Add(got)
	}
	wantWritten(t, "pieces", &p, b)
}
