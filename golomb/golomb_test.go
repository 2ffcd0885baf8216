package golomb_test

import (
	"bytes"
	"math"
	"strconv"
	"strings"
	"testing"

	"shingle/bits"
	"shingle/golomb"
)

const (
	greatest = 1<<32 - 2 // that has a code
	first    = 1<<32 - 1 // that has none
)

// numbers around which a code grows, and their neighbours, with codes.
func numbers() []int {
	out := []int{greatest, greatest - 1, 12345, 1000000007, 0xdeadbeef, 0xaaaaaaaa, 0x55555555}
	for v := range 70 {
		out = append(out, v)
	}
	for i := 7; i < 32; i++ {
		out = append(out, 1<<i-2, 1<<i-1, 1<<i, 1<<i+1)
	}
	return out
}

// without a code, on both sides of 0, even with a sign.
func without() []int {
	return []int{first, first + 1, 1<<32 + 1, 1<<33 - 2, 1<<40 + 5, 1 << 62, math.MaxInt - 1, math.MaxInt,
		-first, -first - 1, -1<<32 - 1, -1<<40 - 5, -1 << 62, math.MinInt + 1, math.MinInt}
}

// code of v as a text of 0s and 1s, by the chapter's words.
func code(v int) string {
	binary := strconv.FormatInt(int64(v)+1, 2)
	text := ""
	for _, digit := range binary[1:] {
		text += "0" + string(digit)
	}
	return text + "1"
}

// signedCode of v, as code.
func signedCode(v int) string {
	switch {
	case v < 0:
		return code(-v) + "1"
	case v > 0:
		return code(v) + "0"
	}
	return code(0)
}

// packed is what bytes a text of 0s and 1s means.
func packed(text string) []byte {
	for len(text)%8 != 0 {
		text += "0"
	}
	var out []byte
	for ; text != ""; text = text[8:] {
		v, _ := strconv.ParseUint(text[:8], 2, 8)
		out = append(out, byte(v))
	}
	return out
}

// wantWritten holds a writer against the bits that it should have.
func wantWritten(t *testing.T, what string, w *bits.Writer, text string) {
	t.Helper()
	if w.Len() != len(text) || !bytes.Equal(w.Bytes(), packed(text)) {
		t.Errorf("%s: %d bits %x, not %s", what, w.Len(), w.Bytes(), text)
	}
}

// wantRead holds what a reader was asked against the number, and against where it should be.
func wantRead(t *testing.T, what string, get func(*bits.Reader) (int, bool), r *bits.Reader, v int, ok bool, read int) {
	t.Helper()
	before := r.At()
	gotV, gotOK := get(r)
	if gotV != v || gotOK != ok {
		t.Errorf("%s: %d, %v, not %d, %v", what, gotV, gotOK, v, ok)
	}
	if got := r.At() - before; got != read {
		t.Errorf("%s: %d bits are read, not %d", what, got, read)
	}
}

// P2.1: codes are written.

func TestExamples(t *testing.T) {
	for v, text := range []string{"1", "001", "011", "00001"} {
		var w bits.Writer
		if !golomb.Put(&w, v) {
			t.Errorf("Put of %d: false", v)
		}
		wantWritten(t, "Put", &w, text)
	}
	var w bits.Writer
	if !golomb.PutSigned(&w, -1) {
		t.Error("PutSigned of -1: false")
	}
	wantWritten(t, "PutSigned", &w, "0011")
}

func TestPut(t *testing.T) {
	for _, v := range numbers() {
		var w bits.Writer
		if !golomb.Put(&w, v) {
			t.Errorf("Put of %d: false", v)
		}
		wantWritten(t, strconv.Itoa(v), &w, code(v))
	}
}

func TestPutSigned(t *testing.T) {
	for _, n := range numbers() {
		for _, v := range []int{n, -n} {
			var w bits.Writer
			if !golomb.PutSigned(&w, v) {
				t.Errorf("PutSigned of %d: false", v)
			}
			wantWritten(t, strconv.Itoa(v), &w, signedCode(v))
		}
	}
}

func TestPutAtTheGreatest(t *testing.T) {
	var w bits.Writer
	if !golomb.Put(&w, greatest) {
		t.Error("Put of the greatest: false")
	}
	wantWritten(t, "greatest", &w, strings.Repeat("01", 31)+"1")
	var s bits.Writer
	if !golomb.PutSigned(&s, -greatest) {
		t.Error("PutSigned of the least: false")
	}
	wantWritten(t, "least", &s, strings.Repeat("01", 31)+"11")
}

func TestPutBehindOthers(t *testing.T) {
	var w bits.Writer
	text := ""
	for i, v := range numbers() {
		golomb.Put(&w, v)
		golomb.PutSigned(&w, v)
		golomb.PutSigned(&w, -v)
		w.Put(uint64(i), 3)
		text += code(v) + signedCode(v) + signedCode(-v)
		text += []string{"000", "001", "010", "011", "100", "101", "110", "111"}[i%8]
	}
	wantWritten(t, "all of them", &w, text)
}

func TestPutWithoutACodeWritesNothing(t *testing.T) {
	var w bits.Writer
	w.Put(5, 3)
	for _, v := range append(without(), -1, -2, -3, -greatest) {
		if golomb.Put(&w, v) {
			t.Errorf("Put of %d: true", v)
		}
		wantWritten(t, "Put of "+strconv.Itoa(v), &w, "101")
	}
	for _, v := range without() {
		if golomb.PutSigned(&w, v) {
			t.Errorf("PutSigned of %d: true", v)
		}
		wantWritten(t, "PutSigned of "+strconv.Itoa(v), &w, "101")
	}
	golomb.Put(&w, 2)
	wantWritten(t, "a number behind those without a code", &w, "101011")
}

func TestNilWriterAnswersAsTold(t *testing.T) {
	for _, v := range numbers() {
		if !golomb.Put(nil, v) || !golomb.PutSigned(nil, v) || !golomb.PutSigned(nil, -v) {
			t.Errorf("%d has a code, whatever the writer", v)
		}
	}
	for _, v := range without() {
		if golomb.Put(nil, v) || golomb.PutSigned(nil, v) {
			t.Errorf("%d has no code, whatever the writer", v)
		}
	}
	if golomb.Put(nil, -1) {
		t.Error("-1 has no code without a sign")
	}
}

// P2.2: which number any bits are.

func TestGet(t *testing.T) {
	for _, v := range numbers() {
		r := bits.New(packed(code(v) + "11111111"))
		wantRead(t, strconv.Itoa(v), golomb.Get, r, v, true, len(code(v)))
	}
}

func TestGetSigned(t *testing.T) {
	for _, n := range numbers() {
		for _, v := range []int{n, -n} {
			r := bits.New(packed(signedCode(v) + "11111111"))
			wantRead(t, strconv.Itoa(v), golomb.GetSigned, r, v, true, len(signedCode(v)))
		}
	}
}

func TestGetOfAllBits(t *testing.T) {
	// Of each text of 13 bits: the pairs up to the first that begins with a 1, or past the end, where there is none.
	for i := range 1 << 13 {
		text := strconv.FormatInt(1<<13|int64(i), 2)[1:] + "000"
		v, size := 1, 0
		for size < len(text) && text[size] == '0' {
			v = 2*v + int(text[size+1]-'0')
			size += 2
		}
		r := bits.New(packed(text))
		if size == len(text) {
			wantRead(t, text, golomb.Get, r, 0, false, 63)
			continue
		}
		wantRead(t, text, golomb.Get, r, v-1, true, size+1)
	}
}

func TestGetHasNoSignBehindNought(t *testing.T) {
	r := bits.New(packed("1" + "1" + "0011" + "1" + "000"))
	wantRead(t, "0", golomb.GetSigned, r, 0, true, 1)
	wantRead(t, "0 behind it", golomb.GetSigned, r, 0, true, 1)
	wantRead(t, "-1", golomb.GetSigned, r, -1, true, 4)
	wantRead(t, "0 behind -1", golomb.GetSigned, r, 0, true, 1)
}

func TestGetUpToTheEnd(t *testing.T) {
	r := bits.New(packed("00001011"))
	wantRead(t, "3", golomb.Get, r, 3, true, 5)
	wantRead(t, "2, up to the end", golomb.Get, r, 2, true, 3)
	if r.Over() != 0 {
		t.Errorf("up to the end: %d past it", r.Over())
	}
	wantRead(t, "past the end", golomb.Get, r, 0, false, 63)
	if r.Over() != 63 {
		t.Errorf("past the end: %d past it, not 63", r.Over())
	}

	r = bits.New(packed("1000" + "0011"))
	wantRead(t, "0", golomb.GetSigned, r, 0, true, 1)
	r.Get(3)
	wantRead(t, "-1, up to the end", golomb.GetSigned, r, -1, true, 4)
	if r.Over() != 0 {
		t.Errorf("a sign up to the end: %d past it", r.Over())
	}
}

func TestGetPastTheEnd(t *testing.T) {
	for _, text := range []string{"", "00000000", "01010101", "0101010101010100"} {
		for _, get := range []func(*bits.Reader) (int, bool){golomb.Get, golomb.GetSigned} {
			r := bits.New(packed(text))
			wantRead(t, "'"+text+"'", get, r, 0, false, 63)
			if want := 63 - len(text); r.Over() != want {
				t.Errorf("'%s': %d past the end, not %d", text, r.Over(), want)
			}
		}
	}
	// The pair's first bit is the last of the bytes: its digit is a nought.
	r := bits.New(packed("1111111" + "0"))
	r.Get(7)
	wantRead(t, "half a pair", golomb.Get, r, 0, false, 63)
}

func TestSignPastTheEndIsANought(t *testing.T) {
	r := bits.New(packed("11111" + "011"))
	r.Get(5)
	wantRead(t, "2", golomb.GetSigned, r, 2, true, 4)
	if r.Over() != 1 {
		t.Errorf("%d past the end, not 1", r.Over())
	}
	r = bits.New(packed("0101010" + "1"))
	r.Get(7)
	wantRead(t, "0 at the end", golomb.GetSigned, r, 0, true, 1)
	if r.Over() != 0 {
		t.Errorf("0 at the end: %d past it", r.Over())
	}
}

func TestGetBehindThe31stPair(t *testing.T) {
	cases := []struct {
		pairs string
		v     int
	}{
		{strings.Repeat("00", 31), 1<<31 - 1},
		{strings.Repeat("01", 31), greatest},
		{strings.Repeat("00", 30) + "01", 1 << 31},
		{"01" + strings.Repeat("00", 30), 1<<31 + 1<<30 - 1},
	}
	for _, c := range cases {
		for _, behind := range []string{"0", "1"} {
			tail := strings.Repeat(behind, 9)
			r := bits.New(packed(c.pairs + "1" + tail))
			wantRead(t, c.pairs+" and the end", golomb.Get, r, c.v, true, 63)
			r = bits.New(packed(c.pairs + "0" + tail))
			wantRead(t, c.pairs+" and no end", golomb.Get, r, 0, false, 63)
			r = bits.New(packed(c.pairs + "0" + tail))
			wantRead(t, c.pairs+" and neither end nor sign", golomb.GetSigned, r, 0, false, 63)
		}
		r := bits.New(packed(c.pairs + "1" + "01"))
		wantRead(t, c.pairs+", above 0", golomb.GetSigned, r, c.v, true, 64)
		r = bits.New(packed(c.pairs + "1" + "10"))
		wantRead(t, c.pairs+", below 0", golomb.GetSigned, r, -c.v, true, 64)
	}
}

func TestGetGoesOnBehindWhatIsNoCode(t *testing.T) {
	text := strings.Repeat("00", 31) + "0"
	r := bits.New(packed(text + "011" + text + "0110" + "1111"))
	wantRead(t, "no code", golomb.Get, r, 0, false, 63)
	wantRead(t, "2 behind it", golomb.Get, r, 2, true, 3)
	wantRead(t, "no code with a sign", golomb.GetSigned, r, 0, false, 63)
	wantRead(t, "2 behind it, with a sign", golomb.GetSigned, r, 2, true, 4)
}

func TestNilReaderReadsNoughts(t *testing.T) {
	wantRead(t, "Get", golomb.Get, nil, 0, false, 0)
	wantRead(t, "GetSigned", golomb.GetSigned, nil, 0, false, 0)
}

// P2.3: how many bits a code has.

func TestSize(t *testing.T) {
	for _, v := range numbers() {
		if got, want := golomb.Size(v), len(code(v)); got != want {
			t.Errorf("Size of %d: %d, not %d", v, got, want)
		}
		for _, s := range []int{v, -v} {
			if got, want := golomb.SizeSigned(s), len(signedCode(s)); got != want {
				t.Errorf("SizeSigned of %d: %d, not %d", s, got, want)
			}
		}
	}
	if golomb.Size(0) != 1 || golomb.SizeSigned(0) != 1 || golomb.Size(greatest) != 63 || golomb.SizeSigned(greatest) != 64 || golomb.SizeSigned(-greatest) != 64 {
		t.Error("a size at the edges")
	}
}

func TestSizeWithoutACode(t *testing.T) {
	for _, v := range append(without(), -1, -2, -3, -greatest) {
		if got := golomb.Size(v); got != 0 {
			t.Errorf("Size of %d: %d", v, got)
		}
	}
	for _, v := range without() {
		if got := golomb.SizeSigned(v); got != 0 {
			t.Errorf("SizeSigned of %d: %d", v, got)
		}
	}
}

// P2.4: what is written is read.

func TestWhatIsWrittenIsRead(t *testing.T) {
	var w bits.Writer
	size := 0
	all := numbers()
	for i := 0; i < 1<<32-1; i += 7654321 {
		all = append(all, i)
	}
	for _, v := range all {
		golomb.Put(&w, v)
		golomb.PutSigned(&w, -v)
		golomb.PutSigned(&w, v)
		size += golomb.Size(v) + golomb.SizeSigned(-v) + golomb.SizeSigned(v)
	}
	if w.Len() != size {
		t.Errorf("%d bits are written, their sizes are %d", w.Len(), size)
	}
	r := bits.New(w.Bytes())
	for _, v := range all {
		wantRead(t, "Get", golomb.Get, r, v, true, golomb.Size(v))
		wantRead(t, "GetSigned below 0", golomb.GetSigned, r, -v, true, golomb.SizeSigned(-v))
		wantRead(t, "GetSigned", golomb.GetSigned, r, v, true, golomb.SizeSigned(v))
	}
	if r.At() != size || r.Over() != 0 {
		t.Errorf("%d bits are read of %d, %d past the end", r.At(), size, r.Over())
	}
}
