package arith_test

import (
	"bytes"
	"encoding/hex"
	"fmt"
	"math"
	"math/big"
	"slices"
	"strings"
	"testing"

	"shingle/arith"
)

const (
	most  = 64    // contexts
	begin = 32768 // a context's first chance
)

// bit of a context.
type bit struct {
	context int
	one     bool
}

// source of numbers for the tests, the same in each run.
type source uint64

func (s *source) next() uint64 {
	*s ^= *s << 13
	*s ^= *s >> 7
	*s ^= *s << 17
	return uint64(*s)
}

// list of count bits by rules.
func list(count int, context func(i int) int, one func(i int) bool) []bit {
	out := make([]bit, count)
	for i := range out {
		out[i] = bit{context(i), one(i)}
	}
	return out
}

// byTurns goes over the first contexts.
func byTurns(contexts int) func(i int) int {
	return func(i int) int { return i % contexts }
}

// drawn bits: odds of 256 for a 1.
func drawn(s *source, count, contexts int, odds uint64) []bit {
	return list(count,
		func(int) int { return int(s.next() % uint64(contexts)) },
		func(int) bool { return s.next()>>20&0xff < odds })
}

// moved is what a chance is behind a bit, by the words of chapters 4 and 5.
func moved(p int, one bool) int {
	if i := p / 256; one {
		return p - i*(i+384)/96
	}
	i := 255 - p/256
	return p + i*(i+384)/96
}

// evens are so many first chances.
func evens(contexts int) []int {
	out := make([]int, contexts)
	for i := range out {
		out[i] = begin
	}
	return out
}

// packed is what bytes a text of 0s and 1s means, with noughts up to a whole byte.
func packed(text string) []byte {
	for len(text)%8 != 0 {
		text += "0"
	}
	var out []byte
	for ; text != ""; text = text[8:] {
		v := 0
		for _, c := range text[:8] {
			v = 2*v + int(c-'0')
		}
		out = append(out, byte(v))
	}
	return out
}

// plain is an encoder by the chapter's words, its bits a text.
type plain struct {
	chances   []int
	low, span int
	text      string
	owed      int
	longest   int // that was ever owed
}

func newPlain(contexts int) *plain { return &plain{chances: evens(contexts), span: 65536} }

func (p *plain) put(b bit) {
	s := p.span * p.chances[b.context] / 65536
	if b.one {
		p.low, p.span = p.low+s, p.span-s
	} else {
		p.span = s
	}
	p.chances[b.context] = moved(p.chances[b.context], b.one)
	for p.span <= 16384 {
		if p.low < 32768 && p.low+p.span-1 >= 32768 {
			p.owed++
			p.longest = max(p.longest, p.owed)
			p.low ^= 16384
		} else {
			p.text += p.settled(p.low)
			p.owed = 0
		}
		p.low, p.span = 2*p.low%65536, 2*p.span
	}
}

// settled is bit 15 of v, and what is owed.
func (p *plain) settled(v int) string {
	if v >= 32768 {
		return "1" + strings.Repeat("0", p.owed)
	}
	return "0" + strings.Repeat("1", p.owed)
}

// whole bytes, the noughts at the end too.
func (p *plain) whole() []byte {
	v := 0
	for v < p.low {
		v += 16384
	}
	return packed(p.text + p.settled(v) + string(rune('0'+v/16384%2)))
}

func (p *plain) bytes() []byte { return bytes.TrimRight(p.whole(), "\x00") }

// exact is a coder whose low is never cut to 16 bits: nothing is owed, the bytes are its first bits rounded up, and a decoder holds all bits against it.
type exact struct {
	chances []int
	low     *big.Int
	span    int
	shifts  int
}

func newExact(contexts int) *exact {
	return &exact{chances: evens(contexts), low: new(big.Int), span: 65536}
}

func (x *exact) part(context int) *big.Int {
	return big.NewInt(int64(x.span * x.chances[context] / 65536))
}

func (x *exact) put(b bit) {
	s := x.part(b.context)
	if b.one {
		x.low.Add(x.low, s)
		x.span -= int(s.Int64())
	} else {
		x.span = int(s.Int64())
	}
	x.chances[b.context] = moved(x.chances[b.context], b.one)
	for ; x.span <= 16384; x.span *= 2 {
		x.low.Lsh(x.low, 1)
		x.shifts++
	}
}

func (x *exact) bytes() []byte {
	up := new(big.Int).Add(x.low, big.NewInt(16383))
	text := up.Rsh(up, 14).Text(2)
	text = strings.Repeat("0", max(0, x.shifts+2-len(text))) + text
	return bytes.TrimRight(packed(text), "\x00")
}

// get the bit that bytes tell next.
func (x *exact) get(b []byte, context int) bool {
	n := 16 + x.shifts
	long := append(slices.Clone(b), make([]byte, (n+7)/8)...)
	at := new(big.Int).SetBytes(long)
	at.Rsh(at, uint(8*len(long)-n))
	one := at.Sub(at, x.low).Cmp(x.part(context)) >= 0
	x.put(bit{context, one})
	return one
}

// told by b are so many bits, by the exact coder.
func told(b []byte, count, contexts int) []bit {
	x := newExact(contexts)
	out := make([]bit, count)
	for i := range out {
		out[i] = bit{i % contexts, x.get(b, i%contexts)}
	}
	return out
}

// example bits, the bytes worked out ahead of the program by the chapter's words.
type example struct {
	name     string
	contexts int
	bits     []bit
	hex      string
}

func examples() []example {
	return []example{
		{"none", 1, nil, ""},
		{"a nought", 1, []bit{{0, false}}, ""},
		{"a one", 1, []bit{{0, true}}, "80"},
		{"mixed", 5, list(400, func(i int) int { return 7 * i % 5 }, func(i int) bool { return (i*i/3+i)%7 < 3 }),
			"c9de11dd4aa65cd5ac8e2a657e7db5a1e567fa581d12dba0606f57fabc73db742e6b24a642e8e2009c9e449b6faa815eefdfb0"},
		{"mostly noughts", 3, list(600, byTurns(3), func(i int) bool { return i%29 == 11 }),
			"0016de001e8d02f3123d886da14f4637e29098233842f52c8cf99e2e"},
		{"mostly ones", 3, list(600, byTurns(3), func(i int) bool { return i%29 != 11 }),
			"ffe9147fe12ffd022db7ff629c2b6e36568796dfdc5d64b39a1e9c1280"},
		{"noughts, then ones", 1, list(500, byTurns(1), func(i int) bool { return i >= 250 }),
			"000000000003ce7ffffffffffffffffffffffff0"},
		{"ones, then noughts", 1, list(500, byTurns(1), func(i int) bool { return i < 250 }), "fffffffffffc1a08"},
		{"all contexts", 64, list(256, func(i int) int { return 37 * i % 64 }, func(i int) bool { return i%5 < 2 }),
			"c6318c6318c6318c611a0d27c73285133e136ff906e671a6b745cb8843623739c0"},
	}
}

// near are bytes around whose bits many others are owed.
func near() [][]byte {
	noughts, ones := make([]byte, 40), bytes.Repeat([]byte{0xff}, 40)
	return [][]byte{
		slices.Concat([]byte{0x5a, 0x80}, noughts, []byte{1}),
		slices.Concat([]byte{0x5a, 0x7f}, ones, []byte{0x3c}),
		slices.Concat([]byte{0x13, 0x37}, ones, []byte{0}, noughts, []byte{0xe7}),
		slices.Concat(noughts, []byte{1}),
		ones,
	}
}

// bitsOf many kinds, with how many contexts they are of.
func bitsOf() map[string]example {
	out := map[string]example{}
	for _, e := range examples() {
		out[e.name] = e
	}
	s := source(0x9e3779b97f4a7c15)
	for _, contexts := range []int{1, 2, 22, 38, most} {
		for _, odds := range []uint64{0, 1, 20, 128, 240, 255, 256} {
			name := fmt.Sprint("drawn ", contexts, " ", odds)
			out[name] = example{name: name, contexts: contexts, bits: drawn(&s, 500, contexts, odds)}
		}
	}
	for i, b := range near() {
		name := fmt.Sprint("near ", i)
		out[name] = example{name: name, contexts: 2, bits: told(b, 500, 2)}
	}
	return out
}

// encoded by an encoder of so many contexts.
func encoded(t *testing.T, contexts int, bits []bit) *arith.Encoder {
	t.Helper()
	e := arith.NewEncoder(contexts)
	for i, b := range bits {
		if !e.Put(b.context, b.one) {
			t.Fatalf("bit %d isn't taken", i)
		}
	}
	return e
}

// wantEncoder holds an encoder against what it should answer.
func wantEncoder(t *testing.T, what string, e *arith.Encoder, b []byte, chances []int, count int) {
	t.Helper()
	if got := e.Bytes(); !bytes.Equal(got, b) {
		t.Fatalf("%s: Bytes %x, not %x", what, got, b)
	}
	if got := e.Chances(); !slices.Equal(got, chances) {
		t.Fatalf("%s: Chances %v, not %v", what, got, chances)
	}
	if got := e.Count(); got != count {
		t.Fatalf("%s: Count %d, not %d", what, got, count)
	}
}

// wantDecoder holds a decoder against what it should answer.
func wantDecoder(t *testing.T, what string, d *arith.Decoder, chances []int, count int) {
	t.Helper()
	if got := d.Chances(); !slices.Equal(got, chances) {
		t.Fatalf("%s: Chances %v, not %v", what, got, chances)
	}
	if got := d.Count(); got != count {
		t.Fatalf("%s: Count %d, not %d", what, got, count)
	}
}

// wrong contexts of a coder of so many.
func wrong(contexts int) []int {
	return []int{-1, -2, -64, contexts, contexts + 1, contexts + 64, 256, 1 << 32, -1 << 32,
		math.MaxInt - 1, math.MaxInt, math.MinInt + 1, math.MinInt}
}

// P5.1: the contexts.

func TestHowManyContexts(t *testing.T) {
	for asked, contexts := range map[int]int{
		math.MinInt: 1, math.MinInt + 1: 1, -1 << 32: 1, -64: 1, -1: 1, 0: 1, 1: 1, 2: 2, 22: 22, 38: 38, 63: 63,
		64: 64, 65: 64, 66: 64, 128: 64, 1<<32 + 5: 64, math.MaxInt - 1: 64, math.MaxInt: 64,
	} {
		e, d := arith.NewEncoder(asked), arith.NewDecoder([]byte{0xa5}, asked)
		what := fmt.Sprint("of ", asked)
		wantEncoder(t, what, e, nil, evens(contexts), 0)
		wantDecoder(t, what, d, evens(contexts), 0)
		for context := range contexts {
			if !e.Put(context, true) {
				t.Errorf("%s: there is no context %d", what, context)
			}
			d.Get(context)
		}
		if e.Put(contexts, true) || e.Count() != contexts || d.Get(contexts) || d.Count() != contexts {
			t.Errorf("%s: there is a context %d, or counts are %d, %d", what, contexts, e.Count(), d.Count())
		}
	}
}

func TestPutOfNoContext(t *testing.T) {
	s := source(0x2545f4914f6cdd1d)
	for _, contexts := range []int{1, 3, most} {
		e, p := arith.NewEncoder(contexts), newPlain(contexts)
		for i, b := range drawn(&s, 300, contexts, 100) {
			for _, context := range wrong(contexts) {
				if e.Put(context, i%2 == 0) || e.Put(context, i%2 == 1) {
					t.Fatalf("Put(%d) of %d contexts: true", context, contexts)
				}
			}
			wantEncoder(t, "behind wrong contexts", e, p.bytes(), p.chances, i)
			e.Put(b.context, b.one)
			p.put(b)
		}
		wantEncoder(t, "at the end", e, p.bytes(), p.chances, 300)
	}
}

func TestGetOfNoContext(t *testing.T) {
	b := []byte("\xff\xfe\xfd\x80any bytes")
	for _, contexts := range []int{1, 3, most} {
		d, x := arith.NewDecoder(b, contexts), newExact(contexts)
		for i := range 300 {
			for _, context := range wrong(contexts) {
				if d.Get(context) {
					t.Fatalf("Get(%d) of %d contexts: true", context, contexts)
				}
			}
			wantDecoder(t, "behind wrong contexts", d, x.chances, i)
			if got, want := d.Get(i%contexts), x.get(b, i%contexts); got != want {
				t.Fatalf("bit %d of %d contexts: %v", i, contexts, got)
			}
		}
		wantDecoder(t, "at the end", d, x.chances, 300)
	}
}

func TestAContextMovesItsOwnChance(t *testing.T) {
	for context := range most {
		for _, c := range []struct {
			bytes  []byte
			one    bool
			chance int
		}{{nil, false, 33444}, {[]byte{0x80}, true, 32086}} {
			e, d := arith.NewEncoder(most), arith.NewDecoder(c.bytes, most)
			e.Put(context, c.one)
			if d.Get(context) != c.one {
				t.Errorf("context %d of %x: not %v", context, c.bytes, c.one)
			}
			chances := evens(most)
			chances[context] = c.chance
			wantEncoder(t, "one bit", e, c.bytes, chances, 1)
			wantDecoder(t, "one bit", d, chances, 1)
		}
	}
}

// P5.1: the bytes of any bits.

func TestEncoderOfNoBits(t *testing.T) {
	for _, contexts := range []int{-1, 1, 64, 65} {
		if got := arith.NewEncoder(contexts).Bytes(); len(got) != 0 {
			t.Errorf("%d contexts: %x", contexts, got)
		}
	}
}

func TestBytesThatWereWorkedOut(t *testing.T) {
	for _, e := range examples() {
		if got := hex.EncodeToString(encoded(t, e.contexts, e.bits).Bytes()); got != e.hex {
			t.Errorf("%s: %s, not %s", e.name, got, e.hex)
		}
	}
}

func TestBytesByTheChaptersWords(t *testing.T) {
	longest, trimmed := 0, 0
	for name, kind := range bitsOf() {
		e, p, x := arith.NewEncoder(kind.contexts), newPlain(kind.contexts), newExact(kind.contexts)
		for i, b := range kind.bits {
			e.Put(b.context, b.one)
			p.put(b)
			x.put(b)
			wantEncoder(t, fmt.Sprint(name, ", bit ", i), e, p.bytes(), x.chances, i+1)
			trimmed = max(trimmed, len(p.whole())-len(p.bytes()))
		}
		if !bytes.Equal(p.bytes(), x.bytes()) {
			t.Fatalf("%s: the tests' own coders differ", name)
		}
		longest = max(longest, p.longest)
	}
	if longest < 300 || trimmed < 5 {
		t.Errorf("too few are owed (%d) or left out (%d) for a test", longest, trimmed)
	}
}

// All bits up to some, so that the end of the bytes is each multiple of 16384, the low itself too.
func TestBytesAtEachEnd(t *testing.T) {
	var ends [4]int
	just := 0
	for pattern := 1; pattern < 1<<13; pattern++ {
		digits := fmt.Sprintf("%b", pattern)[1:]
		e, p, x := arith.NewEncoder(2), newPlain(2), newExact(2)
		for i, digit := range digits {
			b := bit{i % 2, digit == '1'}
			e.Put(b.context, b.one)
			p.put(b)
			x.put(b)
		}
		wantEncoder(t, digits, e, x.bytes(), p.chances, len(digits))
		ends[(p.low+16383)/16384]++
		if p.low > 0 && p.low%16384 == 0 {
			just++
		}
	}
	if slices.Contains(ends[:], 0) || just == 0 {
		t.Errorf("an end isn't tested: %v, %d", ends, just)
	}
}

func TestNoughtsAtTheEndAreLeftOut(t *testing.T) {
	e := arith.NewEncoder(1)
	for i := range 3000 {
		e.Put(0, false)
		if got := e.Bytes(); len(got) != 0 {
			t.Fatalf("%d noughts: %x", i+1, got)
		}
	}
	left, inside := 0, 0
	for name, kind := range bitsOf() {
		e, p := arith.NewEncoder(kind.contexts), newPlain(kind.contexts)
		for _, b := range kind.bits {
			e.Put(b.context, b.one)
			p.put(b)
			got := e.Bytes()
			if n := len(got); n > 0 && got[n-1] == 0 {
				t.Fatalf("%s: a nought at the end: %x", name, got)
			}
			if len(got) > 0 && len(got) < len(p.whole()) {
				left++
			}
			if bytes.IndexByte(got, 0) >= 0 {
				inside++
			}
		}
	}
	if left == 0 || inside == 0 {
		t.Errorf("no bytes to test it by: %d, %d", left, inside)
	}
}

func TestBytesLeavesTheEncoderAsItIs(t *testing.T) {
	for name, kind := range bitsOf() {
		often, once := arith.NewEncoder(kind.contexts), arith.NewEncoder(kind.contexts)
		for i, b := range kind.bits {
			for range i % 4 {
				often.Bytes()
			}
			if !slices.Equal(often.Chances(), once.Chances()) || often.Count() != once.Count() {
				t.Fatalf("%s: bit %d: Bytes has changed the encoder", name, i)
			}
			often.Put(b.context, b.one)
			once.Put(b.context, b.one)
		}
		first := once.Bytes()
		for range 3 {
			wantEncoder(t, name, often, first, once.Chances(), len(kind.bits))
		}
	}
}

// P5.1: which bits any bytes tell.

func TestBitsThatWereWorkedOut(t *testing.T) {
	for text, want := range map[string]string{
		"":                         "00000000000000000000000000000000000000000000000000000000000000000000000000000000",
		"80":                       "10000000000000000000000000000000000000000000000000000000000000000000000000000000",
		"00000001":                 "00000000000000000000000000000000000000000101000011000000000001010101010000011010",
		"ffffffffffff":             "11111111111111111111111111111111111111111111111111111111111111111111111111010010",
		"deadbeef0123456789abcdef": "11011111011100101111000000010100110110001001011101001101010100010110110100100110",
		"5a7fffffffffff":           "01011001111000010101010110001101101011111010010001000101100100011110110000100010",
		"5a80000000000001":         "01011001111000010101010110001101101011111010010001000110110111111101111000010111",
	} {
		b, err := hex.DecodeString(text)
		if err != nil {
			t.Fatal(err)
		}
		d, got := arith.NewDecoder(b, 2), ""
		for i := range want {
			if d.Get(i % 2) {
				got += "1"
			} else {
				got += "0"
			}
		}
		if got != want {
			t.Errorf("%s: %s, not %s", text, got, want)
		}
	}
}

func TestAnyBytesByTheChaptersWords(t *testing.T) {
	s := source(0xd1342543de82ef95)
	all := near()
	for n := range 60 {
		b := make([]byte, n)
		for i := range b {
			b[i] = byte(s.next() >> 30)
		}
		all = append(all, b, bytes.Repeat([]byte{0xff}, n))
	}
	for _, b := range all {
		for _, contexts := range []int{1, 3, most} {
			d, x := arith.NewDecoder(b, contexts), newExact(contexts)
			for i := range 400 {
				context := int(s.next() % uint64(contexts))
				if got, want := d.Get(context), x.get(b, context); got != want {
					t.Fatalf("%x, %d contexts: bit %d: %v", b, contexts, i, got)
				}
				wantDecoder(t, fmt.Sprintf("%x, bit %d", b, i), d, x.chances, i+1)
			}
		}
	}
}

func TestDecoderOfNoBytesTellsNoughts(t *testing.T) {
	for _, b := range [][]byte{nil, {}, {0}, make([]byte, 50)} {
		d := arith.NewDecoder(b, 3)
		for i := range 5000 {
			if d.Get(i % 3) {
				t.Fatalf("bit %d of %x: 1", i, b)
			}
		}
		if d.Count() != 5000 {
			t.Errorf("Count %d", d.Count())
		}
	}
}

func TestDecoderReadsNoughtsPastTheEnd(t *testing.T) {
	ones := 0
	for _, b := range append(near(), []byte{0xff}, []byte{0x80, 0x01}, []byte("wavelets")) {
		short, long := arith.NewDecoder(b, 2), arith.NewDecoder(slices.Concat(b, make([]byte, 1000)), 2)
		for i := range 2000 {
			got, want := short.Get(i%2), long.Get(i%2)
			if got != want {
				t.Fatalf("%x: bit %d: %v past the end", b, i, got)
			}
			if i > 8*len(b)+16 && got {
				ones++
			}
		}
		wantDecoder(t, "past the end", short, long.Chances(), 2000)
	}
	if ones == 0 {
		t.Errorf("nothing to test it by")
	}
}

// P5.2: what is put is told again.

func TestWhatIsPutIsTold(t *testing.T) {
	for name, kind := range bitsOf() {
		b := encoded(t, kind.contexts, kind.bits).Bytes()
		e, d := arith.NewEncoder(kind.contexts), arith.NewDecoder(b, kind.contexts)
		for i, b := range kind.bits {
			e.Put(b.context, b.one)
			if got := d.Get(b.context); got != b.one {
				t.Fatalf("%s: bit %d: %v", name, i, got)
			}
			wantDecoder(t, fmt.Sprint(name, ", bit ", i), d, e.Chances(), e.Count())
		}
	}
}

func TestWhatIsPutIsToldOfEachBeginning(t *testing.T) {
	s := source(0x6a09e667f3bcc909)
	for _, odds := range []uint64{3, 60, 128, 200, 253} {
		e := arith.NewEncoder(4)
		all := drawn(&s, 300, 4, odds)
		for n, last := range all {
			e.Put(last.context, last.one)
			d := arith.NewDecoder(e.Bytes(), 4)
			for i, b := range all[:n+1] {
				if got := d.Get(b.context); got != b.one {
					t.Fatalf("odds %d, the first %d: bit %d: %v", odds, n+1, i, got)
				}
			}
			wantDecoder(t, "a beginning", d, e.Chances(), e.Count())
		}
	}
}

func TestManyBitsAreTold(t *testing.T) {
	s := source(0xbb67ae8584caa73b)
	for _, odds := range []uint64{0, 2, 128, 254, 256} {
		bits := drawn(&s, 60000, most, odds)
		e := encoded(t, most, bits)
		d := arith.NewDecoder(e.Bytes(), most)
		for i, b := range bits {
			if got := d.Get(b.context); got != b.one {
				t.Fatalf("odds %d: bit %d: %v", odds, i, got)
			}
		}
		wantDecoder(t, "many", d, e.Chances(), len(bits))
	}
}

// Objects and memory.

func TestNilCoders(t *testing.T) {
	var e *arith.Encoder
	var d *arith.Decoder
	for _, context := range append(wrong(1), 0, 1, 63) {
		if e.Put(context, true) || e.Put(context, false) {
			t.Errorf("Put(%d) of nil: true", context)
		}
		if d.Get(context) {
			t.Errorf("Get(%d) of nil: true", context)
		}
	}
	wantEncoder(t, "nil", e, nil, nil, 0)
	wantDecoder(t, "nil", d, nil, 0)
}

// spoil what was answered, its spare room too.
func spoil[T byte | int](l []T) {
	for i := range l[:cap(l)] {
		l[:cap(l)][i] = 77
	}
}

func TestAnswersAreNewMemory(t *testing.T) {
	kind := bitsOf()["drawn 22 20"]
	e, p := arith.NewEncoder(22), newPlain(22)
	for i, b := range kind.bits {
		e.Put(b.context, b.one)
		p.put(b)
		spoil(e.Bytes())
		spoil(e.Chances())
		wantEncoder(t, "spoilt", e, p.bytes(), p.chances, i+1)
	}
	d, x := arith.NewDecoder(p.bytes(), 22), newExact(22)
	for i, b := range kind.bits {
		spoil(d.Chances())
		if d.Get(b.context) != b.one {
			t.Fatalf("spoilt: bit %d", i)
		}
		x.put(b)
		wantDecoder(t, "spoilt", d, x.chances, i+1)
	}
	one, other := e.Bytes(), e.Bytes()
	spoil(one)
	if !bytes.Equal(other, p.bytes()) {
		t.Errorf("two answers share memory")
	}
}

func TestAnswersStayAsTheyWere(t *testing.T) {
	e, d := arith.NewEncoder(2), arith.NewDecoder([]byte("some bytes"), 2)
	var lists [][]int
	var texts [][]byte
	var were []string
	for i := range 200 {
		e.Put(i%2, i%3 == 0)
		d.Get(i % 2)
		lists = append(lists, e.Chances(), d.Chances())
		texts = append(texts, e.Bytes())
		were = append(were, fmt.Sprint(lists[2*i], lists[2*i+1], texts[i]))
	}
	for i, was := range were {
		if is := fmt.Sprint(lists[2*i], lists[2*i+1], texts[i]); is != was {
			t.Fatalf("answers behind bit %d were %s, are %s", i, was, is)
		}
	}
}

func TestDecoderKeepsAndChangesNothingThatItIsHanded(t *testing.T) {
	kind := bitsOf()["mixed"]
	b := encoded(t, kind.contexts, kind.bits).Bytes()
	room := append(slices.Clone(b), "room behind"...)
	was := slices.Clone(room)
	for at := range kind.bits {
		if at%50 != 0 {
			continue
		}
		copy(room, was)
		d := arith.NewDecoder(room[:len(b)], kind.contexts)
		for i, b := range kind.bits {
			if i == at {
				if !bytes.Equal(room, was) {
					t.Fatalf("what was handed in is changed: %x", room)
				}
				spoil(room)
			}
			if d.Get(b.context) != b.one {
				t.Fatalf("what was handed in is kept: bit %d", i)
			}
		}
		for i := range room {
			if room[i] != 77 {
				t.Fatalf("what was handed in is changed: %x", room)
			}
		}
	}
}

func TestCodersAreApart(t *testing.T) {
	kind := bitsOf()["drawn 38 240"]
	alone := encoded(t, 38, kind.bits)
	first, second := arith.NewEncoder(38), arith.NewEncoder(38)
	one, two := arith.NewDecoder(alone.Bytes(), 38), arith.NewDecoder(alone.Bytes(), 38)
	for i, b := range kind.bits {
		first.Put(b.context, b.one)
		second.Put(37-b.context, !b.one)
		two.Get(37 - b.context)
		if one.Get(b.context) != b.one {
			t.Fatalf("bit %d", i)
		}
	}
	wantEncoder(t, "beside another", first, alone.Bytes(), alone.Chances(), len(kind.bits))
	wantDecoder(t, "beside another", one, alone.Chances(), len(kind.bits))
}

func FuzzAnyBytesAndContexts(f *testing.F) {
	f.Add([]byte{0xa8, 0x7f, 0xff}, []byte{3, 2, 70, 255}, 5)
	f.Add([]byte{}, []byte{64, 0, 0, 0, 1}, -1)
	f.Fuzz(func(t *testing.T, b, asked []byte, contexts int) {
		d, x := arith.NewDecoder(b, contexts), newExact(min(max(contexts, 1), most))
		e, p := arith.NewEncoder(contexts), newPlain(min(max(contexts, 1), most))
		count := 0
		for _, c := range asked {
			context := int(c) - 4
			if context < 0 || context >= len(x.chances) {
				if d.Get(context) || e.Put(context, true) {
					t.Fatalf("context %d of %d", context, contexts)
				}
				continue
			}
			count++
			one := x.get(b, context)
			p.put(bit{context, one})
			if d.Get(context) != one || !e.Put(context, one) {
				t.Fatalf("context %d of %d, bit %d", context, contexts, count)
			}
		}
		wantDecoder(t, "fuzz", d, x.chances, count)
		wantEncoder(t, "fuzz", e, p.bytes(), x.chances, count)
		if !bytes.Equal(p.bytes(), x.bytes()) {
			t.Fatalf("the tests' own coders differ")
		}
	})
}
