package bins_test

import (
	"bytes"
	"encoding/hex"
	"fmt"
	"math"
	"slices"
	"strconv"
	"testing"

	"shingle/api"
	"shingle/arith"
	"shingle/bins"
)

const (
	greatest = 1<<41 - 2 // number that is coded
	most     = 64        // contexts
	few      = 6         // contexts, of which a short set leaves some unused
)

// bit of a context.
type bit struct {
	context int
	one     bool
}

// source of numbers for the tests, the same in each run.
type source uint64

func (s *source) next() uint64 {
	*s ^= *s << 13
	*s ^= *s >> 7
	*s ^= *s << 17
	return uint64(*s)
}

// number without a sign, of any length alike.
func (s *source) number() int {
	return int(min(s.next()%(1<<(s.next()%42)), greatest))
}

// numbers around which a code grows, their neighbours and some others.
func numbers() []int {
	out := []int{greatest, greatest - 1, 12345, 1000000007, 0xaaaaaaaaaa, 0x15555555555, 0x1fedcba9876}
	for v := range 70 {
		out = append(out, v)
	}
	for i := 7; i <= 40; i++ {
		out = append(out, 1<<i-2, 1<<i-1, 1<<i, 1<<i+1)
	}
	return out
}

// beyond what is coded, on both sides of 0, even with a sign.
func beyond() []int {
	return []int{greatest + 1, greatest + 2, greatest + 3, 1<<42 - 2, 1 << 42, 1 << 62, math.MaxInt - 1, math.MaxInt,
		-greatest - 1, -greatest - 2, -greatest - 3, -1 << 42, -1 << 62, math.MinInt + 1, math.MinInt}
}

// signed numbers: those of numbers, on both sides of 0.
func signed() []int {
	var out []int
	for _, v := range numbers() {
		out = append(out, v, -v)
	}
	return out
}

// long Follow: so many contexts of a coder of most, each another one than its neighbours.
func long(count int) []int {
	out := make([]int, count)
	for i := range out {
		out[i] = (7*i + 3) % most
	}
	return out
}

// sets that are right for a coder of most contexts, by name.
func sets() map[string]api.Set {
	return map[string]api.Set{
		"one":         {Follow: []int{5}, Data: 1, Sign: 2},
		"two":         {Follow: []int{26, 27}, Data: 28, Sign: 29},
		"three":       {Follow: []int{8, 6, 7}, Data: 9, Sign: 10},
		"six":         {Follow: []int{0, 2, 3, 4, 5, 6}, Data: 17, Sign: 14},
		"again":       {Follow: []int{9, 4, 9, 4, 9}, Data: 4, Sign: 9},
		"all alike":   {Follow: []int{63}, Data: 63, Sign: 63},
		"noughts":     {Follow: []int{0, 0}},
		"the edges":   {Follow: []int{63, 0, 63}, Data: 0, Sign: 63},
		"thirty-nine": {Follow: long(39), Data: 11, Sign: 12},
		"forty":       {Follow: long(40), Data: 11, Sign: 12},
		"forty-one":   {Follow: long(41), Data: 11, Sign: 12},
		"fifty":       {Follow: long(50), Data: 63, Sign: 0},
		"two hundred": {Follow: long(200), Data: 0, Sign: 63},
	}
}

// wrong contexts of a coder of so many.
func wrong(contexts int) []int {
	return []int{-1, -2, -contexts, contexts, contexts + 1, 256, 1 << 32, -1 << 32,
		math.MaxInt - 1, math.MaxInt, math.MinInt + 1, math.MinInt}
}

// wrongSets for a coder of so many contexts.
func wrongSets(contexts int) []api.Set {
	last := contexts - 1
	out := []api.Set{{}, {Follow: []int{}}, {Data: last, Sign: last}, {Follow: make([]int, 0, 9), Sign: last}}
	for _, c := range wrong(contexts) {
		out = append(out,
			api.Set{Follow: []int{c}},
			api.Set{Follow: []int{c, 0}},
			api.Set{Follow: []int{last, c}, Data: last, Sign: last},
			api.Set{Follow: []int{0, c, last}},
			api.Set{Follow: []int{0, last}, Data: c},
			api.Set{Follow: []int{last}, Sign: c},
			api.Set{Follow: []int{c}, Data: c, Sign: c})
		for _, at := range []int{1, 39, 40, 41, 99} {
			follow := make([]int, 100)
			follow[at] = c
			out = append(out, api.Set{Follow: follow})
		}
	}
	return out
}

// at is the context of Follow for the digit i.
func at(s api.Set, i int) int {
	if i < len(s.Follow) {
		return s.Follow[i]
	}
	return s.Follow[len(s.Follow)-1]
}

// words are the bits of a number without a sign, by the chapter's words.
func words(s api.Set, v int) []bit {
	left := strconv.FormatInt(int64(v)+1, 2)[1:]
	var out []bit
	for i, digit := range left {
		out = append(out, bit{at(s, i), false}, bit{s.Data, digit == '1'})
	}
	if len(left) < 40 {
		out = append(out, bit{at(s, len(left)), true})
	}
	return out
}

// signedWords are the bits of a number with its sign.
func signedWords(s api.Set, v int) []bit {
	if v == 0 {
		return words(s, 0)
	}
	return append(words(s, max(v, -v)), bit{s.Sign, v < 0})
}

// read a number by the chapter's words.
func read(d *arith.Decoder, s api.Set) int {
	text := "1"
	for len(text) <= 40 && !d.Get(at(s, len(text)-1)) {
		if d.Get(s.Data) {
			text += "1"
		} else {
			text += "0"
		}
	}
	v, _ := strconv.ParseInt(text, 2, 64)
	return int(v) - 1
}

// readSigned number by the chapter's words.
func readSigned(d *arith.Decoder, s api.Set) int {
	v := read(d, s)
	if v == 0 {
		return 0
	}
	if d.Get(s.Sign) {
		return -v
	}
	return v
}

// bitsInto an encoder.
func bitsInto(e *arith.Encoder, list []bit) {
	for _, b := range list {
		e.Put(b.context, b.one)
	}
}

// warming bits, behind which no two contexts of a coder have the same chance: so the bytes tell which bit is of which context.
func warming(contexts int) []bit {
	var out []bit
	for c := range contexts {
		for range c % 8 {
			out = append(out, bit{c, false})
		}
		for range c / 8 {
			out = append(out, bit{c, true})
		}
	}
	return out
}

// warm encoder.
func warm(contexts int) *arith.Encoder {
	e := arith.NewEncoder(contexts)
	bitsInto(e, warming(contexts))
	return e
}

// warmDecoder of the bytes of a warm encoder, as far as its warming.
func warmDecoder(b []byte, contexts int) *arith.Decoder {
	d := arith.NewDecoder(b, contexts)
	for _, w := range warming(contexts) {
		d.Get(w.context)
	}
	return d
}

// state of an encoder: all that it tells.
func state(e *arith.Encoder) string {
	return fmt.Sprintf("%x %v %d", e.Bytes(), e.Chances(), e.Count())
}

// readState of a decoder: all that it tells.
func readState(d *arith.Decoder) string {
	return fmt.Sprint(d.Chances(), d.Count())
}

// wantState holds an encoder against one that was handed bits.
func wantState(t *testing.T, what string, got, want *arith.Encoder) {
	t.Helper()
	if g, w := state(got), state(want); g != w {
		t.Fatalf("%s:\n%s, not\n%s", what, g, w)
	}
}

// wantReadState holds a decoder against another one.
func wantReadState(t *testing.T, what string, got, want *arith.Decoder) {
	t.Helper()
	if g, w := readState(got), readState(want); g != w {
		t.Fatalf("%s:\n%s, not\n%s", what, g, w)
	}
}

func TestNoTwoWarmContextsAreAlike(t *testing.T) {
	chances := warm(most).Chances()
	slices.Sort(chances)
	if got := len(slices.Compact(chances)); got != most {
		t.Errorf("%d chances of %d contexts", got, most)
	}
}

// P6.1: which bits a number is.

func TestBitsThatWereWorkedOut(t *testing.T) {
	const f0, f1, f2, data, sign = 0, 1, 2, 3, 4
	s := api.Set{Follow: []int{f0, f1, f2}, Data: data, Sign: sign}
	for v, want := range map[int][]bit{
		0:  {{f0, true}},
		1:  {{f0, false}, {data, false}, {f1, true}, {sign, false}},
		-1: {{f0, false}, {data, false}, {f1, true}, {sign, true}},
		2:  {{f0, false}, {data, true}, {f1, true}, {sign, false}},
		3:  {{f0, false}, {data, false}, {f1, false}, {data, false}, {f2, true}, {sign, false}},
		-4: {{f0, false}, {data, false}, {f1, false}, {data, true}, {f2, true}, {sign, true}},
		5:  {{f0, false}, {data, true}, {f1, false}, {data, false}, {f2, true}, {sign, false}},
		6:  {{f0, false}, {data, true}, {f1, false}, {data, true}, {f2, true}, {sign, false}},
		-12: {{f0, false}, {data, true}, {f1, false}, {data, false}, {f2, false}, {data, true}, {f2, true},
			{sign, true}},
		25: {{f0, false}, {data, true}, {f1, false}, {data, false}, {f2, false}, {data, true}, {f2, false}, {data, false},
			{f2, true}, {sign, false}},
	} {
		e, p := warm(few), warm(few)
		bitsInto(p, want)
		if !bins.PutSigned(e, s, v) {
			t.Errorf("PutSigned of %d: false", v)
		}
		wantState(t, fmt.Sprint("PutSigned of ", v), e, p)
		if d := warmDecoder(p.Bytes(), few); bins.GetSigned(d, s) != v || d.Count() != p.Count() {
			t.Errorf("GetSigned isn't %d of %d bits", v, p.Count())
		}
		if v < 0 {
			continue
		}
		e, p = warm(few), warm(few)
		bitsInto(p, want[:bins.Bits(v)])
		if !bins.Put(e, s, v) {
			t.Errorf("Put of %d: false", v)
		}
		wantState(t, fmt.Sprint("Put of ", v), e, p)
		if d := warmDecoder(p.Bytes(), few); bins.Get(d, s) != v || d.Count() != p.Count() {
			t.Errorf("Get isn't %d of %d bits", v, p.Count())
		}
	}
}

// Bytes, worked out ahead of the program by the words of chapters 4, 5 and 6.
const (
	workedOutSigned   = "915f67de9ceabcbd0a5bf7ef77ed775d9db6120000000000009c8b5c53597af0"
	workedOutUnsigned = "816affaec9da1af5d131ac83ac3d7bfbed4cb76c37441049187c29d87cef13"
)

func TestBytesThatWereWorkedOut(t *testing.T) {
	s := api.Set{Follow: []int{0, 1, 2}, Data: 3, Sign: 4}
	e := arith.NewEncoder(5)
	for _, v := range []int{0, 1, -1, 2, -2, 3, 100, -12345, 0, 0, greatest, -greatest, 1<<40 - 1, 1<<40 - 2, 0, -6} {
		bins.PutSigned(e, s, v)
	}
	if got := hex.EncodeToString(e.Bytes()); got != workedOutSigned {
		t.Errorf("with signs: %s", got)
	}
	e = arith.NewEncoder(5)
	for v := range 40 {
		bins.Put(e, s, 7*v%23)
	}
	if got := hex.EncodeToString(e.Bytes()); got != workedOutUnsigned {
		t.Errorf("without signs: %s", got)
	}
}

func TestPutByTheChaptersWords(t *testing.T) {
	for name, s := range sets() {
		for _, v := range numbers() {
			e, p := warm(most), warm(most)
			bitsInto(p, words(s, v))
			if !bins.Put(e, s, v) {
				t.Fatalf("%s: Put of %d: false", name, v)
			}
			wantState(t, fmt.Sprint(name, ": Put of ", v), e, p)
		}
	}
}

func TestPutSignedByTheChaptersWords(t *testing.T) {
	for name, s := range sets() {
		for _, v := range signed() {
			e, p := warm(most), warm(most)
			bitsInto(p, signedWords(s, v))
			if !bins.PutSigned(e, s, v) {
				t.Fatalf("%s: PutSigned of %d: false", name, v)
			}
			wantState(t, fmt.Sprint(name, ": PutSigned of ", v), e, p)
		}
	}
}

func TestOneNumberBehindTheOtherByTheChaptersWords(t *testing.T) {
	for name, s := range sets() {
		e, p := arith.NewEncoder(most), arith.NewEncoder(most)
		for _, v := range signed() {
			bitsInto(p, signedWords(s, v))
			bins.PutSigned(e, s, v)
			if v >= 0 {
				bitsInto(p, words(s, v))
				bins.Put(e, s, v)
			}
		}
		wantState(t, name, e, p)
	}
}

func TestFortyDigitsHaveNoEnd(t *testing.T) {
	s := api.Set{Follow: []int{0, 1}, Data: 2, Sign: 3}
	for v, c := range map[int]struct {
		digits int
		one    bool // are they ones, all of them?
	}{1<<39 - 1: {39, false}, 1<<40 - 2: {39, true}, 1<<40 - 1: {40, false}, greatest: {40, true}} {
		var want []bit
		for i := range c.digits {
			want = append(want, bit{min(i, 1), false}, bit{2, c.one})
		}
		if c.digits < 40 {
			want = append(want, bit{1, true})
		}
		e, p := warm(few), warm(few)
		bitsInto(p, want)
		if !bins.Put(e, s, v) {
			t.Errorf("Put of %d: false", v)
		}
		wantState(t, fmt.Sprint("Put of ", v), e, p)
		bitsInto(p, []bit{{3, true}})
		e, d := warm(few), warmDecoder(p.Bytes(), few)
		bins.PutSigned(e, s, -v)
		wantState(t, fmt.Sprint("PutSigned of ", -v), e, p)
		if got := bins.GetSigned(d, s); got != -v || d.Count() != p.Count() {
			t.Errorf("GetSigned: %d of %d bits, not %d of %d", got, d.Count(), -v, p.Count())
		}
	}
}

// P6.1: what may not be.

func TestNumbersThatMayNotBeCodeNothing(t *testing.T) {
	for name, s := range sets() {
		e, p := warm(most), warm(most)
		for _, v := range beyond() {
			if bins.Put(e, s, v) || bins.PutSigned(e, s, v) {
				t.Fatalf("%s: %d is put", name, v)
			}
		}
		for _, v := range signed() {
			if v < 0 && bins.Put(e, s, v) {
				t.Fatalf("%s: Put of %d: true", name, v)
			}
		}
		wantState(t, name, e, p)
		bitsInto(p, words(s, 77))
		if !bins.Put(e, s, 77) {
			t.Errorf("%s: the number behind isn't put", name)
		}
		wantState(t, name, e, p)
	}
}

func TestWrongSetsCodeNothing(t *testing.T) {
	for _, contexts := range []int{1, 2, 22, most} {
		s := api.Set{Follow: []int{contexts - 1}}
		e, p := warm(contexts), warm(contexts)
		for _, x := range wrongSets(contexts) {
			for _, v := range []int{0, 1, -1, 2, 1 << 20, 1<<40 - 1, greatest, -greatest, greatest + 1, math.MinInt} {
				if bins.Put(e, x, v) || bins.PutSigned(e, x, v) {
					t.Fatalf("%d contexts: %d is put by %v", contexts, v, x)
				}
			}
			wantState(t, fmt.Sprint(contexts, " contexts, ", x), e, p)
		}
		bitsInto(p, signedWords(s, -77))
		if !bins.PutSigned(e, s, -77) {
			t.Errorf("%d contexts: the number behind isn't put", contexts)
		}
		wantState(t, "behind wrong sets", e, p)
	}
}

func TestSetsAreHeldAgainstTheirCoder(t *testing.T) {
	for asked, contexts := range map[int]int{-5: 1, 0: 1, 1: 1, 2: 2, 22: 22, 38: 38, 63: 63, 64: 64, 65: 64, 1000: 64} {
		for c := range most + 2 {
			for i, s := range []api.Set{{Follow: []int{c}}, {Follow: []int{0, c}}, {Follow: []int{0}, Data: c},
				{Follow: []int{0}, Sign: c}, {Follow: []int{c}, Data: c, Sign: c}} {
				e := arith.NewEncoder(asked)
				put, signedPut := bins.Put(e, s, 2), bins.PutSigned(e, s, -2)
				if is := c < contexts; put != is || signedPut != is {
					t.Errorf("%d contexts, set %d of %d: %v, %v", asked, i, c, put, signedPut)
				}
				d := arith.NewDecoder(e.Bytes(), asked)
				if got, and := bins.Get(d, s), bins.GetSigned(d, s); c < contexts && (got != 2 || and != -2) {
					t.Errorf("%d contexts, set %d of %d: %d, %d", asked, i, c, got, and)
				}
				if d.Count() != e.Count() {
					t.Errorf("%d contexts, set %d of %d: %d bits are read", asked, i, c, d.Count())
				}
			}
		}
	}
}

// P6.2: which number the next bits are.

func TestGetTellsTheBitsNumber(t *testing.T) {
	for name, s := range sets() {
		for _, v := range signed() {
			p := warm(most)
			bitsInto(p, signedWords(s, v))
			count := p.Count()
			bitsInto(p, []bit{{s.Sign, true}, {s.Data, true}, {s.Follow[0], true}, {s.Sign, true}})
			d := warmDecoder(p.Bytes(), most)
			if got := bins.GetSigned(d, s); got != v || d.Count() != count {
				t.Fatalf("%s: GetSigned %d of %d bits, not %d of %d", name, got, d.Count(), v, count)
			}
			if v < 0 {
				continue
			}
			p = warm(most)
			bitsInto(p, words(s, v))
			d = warmDecoder(p.Bytes(), most)
			if got := bins.Get(d, s); got != v {
				t.Fatalf("%s: Get %d, not %d", name, got, v)
			}
			if got, want := readState(d), fmt.Sprint(p.Chances(), p.Count()); got != want {
				t.Fatalf("%s: behind %d: %s, not %s", name, v, got, want)
			}
		}
	}
}

// anyBytes of all sorts, some of them long ones of noughts or ones.
func anyBytes() [][]byte {
	s := source(0x9e3779b97f4a7c15)
	out := [][]byte{nil, {}, {0}, {1}, {0x7f}, {0x80}, {0xff}, make([]byte, 50), bytes.Repeat([]byte{0xff}, 50),
		bytes.Repeat([]byte{0xaa}, 30), append(make([]byte, 20), 0x80), []byte("some bytes")}
	for range 40 {
		b := make([]byte, s.next()%40)
		for i := range b {
			b[i] = byte(s.next() >> 30)
		}
		out = append(out, b)
	}
	return out
}

func TestGetOfAnyBytes(t *testing.T) {
	longest := 0
	for name, s := range sets() {
		for _, b := range anyBytes() {
			d, p := arith.NewDecoder(b, most), arith.NewDecoder(b, most)
			for i := range 60 {
				before := d.Count()
				got, want := bins.Get(d, s), read(p, s)
				if i%2 == 1 {
					got, want = bins.GetSigned(d, s), readSigned(p, s)
				}
				if got != want || max(got, -got) > greatest || d.Count()-before > 161 {
					t.Fatalf("%s: number %d of %x: %d of %d bits, not %d", name, i, b, got, d.Count()-before, want)
				}
				wantReadState(t, fmt.Sprintf("%s: behind number %d of %x", name, i, b), d, p)
				longest = max(longest, got)
			}
		}
	}
	if longest < 1<<40-1 {
		t.Errorf("no number of 40 digits among them")
	}
}

func TestGetPastTheEnd(t *testing.T) {
	for name, s := range sets() {
		d := arith.NewDecoder(nil, most)
		for i := range 50 {
			if got := bins.Get(d, s); got != 1<<40-1 || d.Count() != 161*i+80 {
				t.Fatalf("%s: %d of no bytes, %d bits", name, got, d.Count())
			}
			if got := bins.GetSigned(d, s); got != 1<<40-1 || d.Count() != 161*(i+1) {
				t.Fatalf("%s: with a sign %d of no bytes, %d bits", name, got, d.Count())
			}
		}
		e := arith.NewEncoder(most)
		bins.PutSigned(e, s, -1234567)
		b := e.Bytes()
		d, p := arith.NewDecoder(b, most), arith.NewDecoder(b, most)
		for i := range 50 {
			if got, want := bins.GetSigned(d, s), readSigned(p, s); got != want {
				t.Fatalf("%s: number %d: %d, not %d", name, i, got, want)
			}
			wantReadState(t, name, d, p)
		}
	}
}

func TestGetOfFortyDigitsAtTheMost(t *testing.T) {
	s := api.Set{Follow: []int{0, 1, 2}, Data: 3, Sign: 4}
	for one, want := range map[bool]int{false: 1<<40 - 1, true: greatest} {
		e := arith.NewEncoder(5)
		for range 3 {
			for i := range 40 {
				bitsInto(e, []bit{{min(i, 2), false}, {3, one}})
			}
		}
		d := arith.NewDecoder(e.Bytes(), 5)
		for i := range 3 {
			if got := bins.Get(d, s); got != want || d.Count() != 80*(i+1) {
				t.Errorf("%d of %d bits, not %d of %d", got, d.Count(), want, 80*(i+1))
			}
		}
		if !slices.Equal(d.Chances(), e.Chances()) {
			t.Errorf("chances %v, not %v", d.Chances(), e.Chances())
		}
	}
}

func TestNoughtHasNoSign(t *testing.T) {
	s := api.Set{Follow: []int{0, 1}, Data: 2, Sign: 3}
	e := arith.NewEncoder(4)
	if !bins.PutSigned(e, s, 0) || e.Count() != 1 || e.Chances()[3] != 32768 {
		t.Errorf("PutSigned of 0: %d bits, chances %v", e.Count(), e.Chances())
	}
	d := arith.NewDecoder([]byte{0xff, 0xff, 0xff, 0xff}, 4)
	if got := bins.GetSigned(d, s); got != 0 || d.Count() != 1 || d.Chances()[3] != 32768 {
		t.Errorf("GetSigned: %d, %d bits, chances %v", got, d.Count(), d.Chances())
	}
}

func TestGetOfWrongSetsReadsNothing(t *testing.T) {
	for _, contexts := range []int{1, 2, 22, most} {
		s := api.Set{Follow: []int{contexts - 1, 0}}
		for _, b := range anyBytes()[:20] {
			d, p := arith.NewDecoder(b, contexts), arith.NewDecoder(b, contexts)
			for _, x := range wrongSets(contexts) {
				if got, and := bins.Get(d, x), bins.GetSigned(d, x); got != 0 || and != 0 {
					t.Fatalf("%d contexts, %v: %d, %d", contexts, x, got, and)
				}
				wantReadState(t, "a wrong set", d, p)
			}
			for range 5 {
				if got, want := bins.GetSigned(d, s), readSigned(p, s); got != want {
					t.Fatalf("%d contexts: behind wrong sets %d, not %d", contexts, got, want)
				}
			}
			wantReadState(t, "behind wrong sets", d, p)
		}
	}
}

// P6.2: how many bits a number costs.

func TestBitsAreWhatPutCounts(t *testing.T) {
	s := api.Set{Follow: []int{0, 1}, Data: 2, Sign: 3}
	e := arith.NewEncoder(4)
	for _, v := range slices.Concat(signed(), beyond()) {
		before := e.Count()
		put := bins.Put(e, s, v)
		if got, want := bins.Bits(v), e.Count()-before; got != want || put != (got > 0) {
			t.Errorf("Bits(%d): %d, but %d are coded", v, got, want)
		}
		before = e.Count()
		bins.PutSigned(e, s, v)
		want := bins.Bits(max(v, -v))
		if v != 0 && want > 0 {
			want++
		}
		if got := e.Count() - before; got != want {
			t.Errorf("%d with a sign: %d bits, not %d", v, got, want)
		}
	}
}

func TestBitsThatWereCounted(t *testing.T) {
	for v, want := range map[int]int{0: 1, 1: 3, 2: 3, 3: 5, 6: 5, 7: 7, 14: 7, 15: 9, 65534: 31, 65535: 33, 1<<39 - 2: 77,
		1<<39 - 1: 79, 1<<40 - 2: 79, 1<<40 - 1: 80, 1 << 40: 80, greatest - 1: 80, greatest: 80} {
		if got := bins.Bits(v); got != want {
			t.Errorf("Bits(%d): %d, not %d", v, got, want)
		}
	}
	for _, v := range append(beyond(), -1, -2, -7, -greatest) {
		if got := bins.Bits(v); got != 0 {
			t.Errorf("Bits(%d): %d", v, got)
		}
	}
}

// P6.3: what is put is told.

func TestEachNumberIsToldByItself(t *testing.T) {
	for name, s := range sets() {
		for _, v := range signed() {
			e := arith.NewEncoder(most)
			bins.PutSigned(e, s, v)
			if got := bins.GetSigned(arith.NewDecoder(e.Bytes(), most), s); got != v {
				t.Fatalf("%s: with a sign %d, not %d", name, got, v)
			}
			if v < 0 {
				continue
			}
			e = arith.NewEncoder(most)
			bins.Put(e, s, v)
			if got := bins.Get(arith.NewDecoder(e.Bytes(), most), s); got != v {
				t.Fatalf("%s: %d, not %d", name, got, v)
			}
		}
	}
}

// item that is put: a number by a set, with a sign or without.
type item struct {
	set  api.Set
	v    int
	sign bool
}

// drawn items of all sets, small numbers and great ones.
func drawn(count int) []item {
	s := source(0xbb67ae8584caa73b)
	names := []string{}
	for name := range sets() {
		names = append(names, name)
	}
	slices.Sort(names)
	out := make([]item, count)
	for i := range out {
		x := item{set: sets()[names[s.next()%uint64(len(names))]], v: s.number(), sign: s.next()>>9&1 == 1}
		if x.sign && s.next()>>9&1 == 1 {
			x.v = -x.v
		}
		out[i] = x
	}
	return out
}

func (x item) put(e *arith.Encoder) bool {
	if x.sign {
		return bins.PutSigned(e, x.set, x.v)
	}
	return bins.Put(e, x.set, x.v)
}

func (x item) get(d *arith.Decoder) int {
	if x.sign {
		return bins.GetSigned(d, x.set)
	}
	return bins.Get(d, x.set)
}

func TestNumbersAreToldOneBehindTheOther(t *testing.T) {
	all := drawn(2000)
	e := arith.NewEncoder(most)
	var chances [][]int
	for i, x := range all {
		if !x.put(e) {
			t.Fatalf("item %d isn't put: %v", i, x)
		}
		chances = append(chances, e.Chances())
	}
	d := arith.NewDecoder(e.Bytes(), most)
	for i, x := range all {
		if got := x.get(d); got != x.v {
			t.Fatalf("item %d: %d, not %d", i, got, x.v)
		}
		if !slices.Equal(d.Chances(), chances[i]) {
			t.Fatalf("item %d: the chances differ", i)
		}
	}
	if d.Count() != e.Count() {
		t.Errorf("%d bits are read, not %d", d.Count(), e.Count())
	}
}

func TestWhatIsRefusedIsNotTold(t *testing.T) {
	s := api.Set{Follow: []int{0, 1, 2}, Data: 3, Sign: 4}
	e, l := arith.NewEncoder(5), []int{0, -3, 1 << 40, -greatest, 9, 0, 1}
	for i, v := range l {
		bins.PutSigned(e, s, beyond()[i])
		bins.PutSigned(e, wrongSets(5)[3*i], v)
		bins.PutSigned(e, s, v)
		bins.Put(e, s, -1-i)
	}
	d := arith.NewDecoder(e.Bytes(), 5)
	for i, v := range l {
		if got := bins.GetSigned(d, s); got != v {
			t.Errorf("number %d: %d, not %d", i, got, v)
		}
	}
}

// Objects and memory.

func TestNilCoders(t *testing.T) {
	var e *arith.Encoder
	var d *arith.Decoder
	for _, s := range append(wrongSets(1), api.Set{Follow: []int{0}}, api.Set{Follow: []int{0, 1, 2}, Data: 3, Sign: 4}) {
		for _, v := range []int{0, 1, -1, greatest, -greatest, greatest + 1, math.MinInt, math.MaxInt} {
			if bins.Put(e, s, v) || bins.PutSigned(e, s, v) {
				t.Errorf("%d is put by %v", v, s)
			}
		}
		if got, and := bins.Get(d, s), bins.GetSigned(d, s); got != 0 || and != 0 {
			t.Errorf("%d, %d by %v", got, and, s)
		}
	}
}

func TestSetsAreNeitherChangedNorKept(t *testing.T) {
	was := []int{0, 1, 2, 77, 78, 79}
	room := slices.Clone(was)
	other := api.Set{Follow: []int{5, 4}, Data: 1, Sign: 0}
	e, p := warm(few), warm(few)
	l := signed()
	for _, v := range l {
		copy(room, was)
		s := api.Set{Follow: room[:3], Data: 3, Sign: 4}
		bitsInto(p, signedWords(s, v))
		bins.PutSigned(e, s, v)
		bins.Put(e, s, greatest+1)
		if !slices.Equal(room, was) {
			t.Fatalf("Put of %d changes the set: %v", v, room)
		}
		clear(room)
		bitsInto(p, words(other, 9))
		bins.Put(e, other, 9)
		wantState(t, fmt.Sprint("behind ", v), e, p)
	}
	d := warmDecoder(e.Bytes(), few)
	for _, v := range l {
		copy(room, was)
		if got := bins.GetSigned(d, api.Set{Follow: room[:3], Data: 3, Sign: 4}); got != v {
			t.Fatalf("%d, not %d", got, v)
		}
		if !slices.Equal(room, was) {
			t.Fatalf("Get of %d changes the set: %v", v, room)
		}
		clear(room)
		if got := bins.Get(d, other); got != 9 {
			t.Fatalf("by another set %d", got)
		}
	}
}

func TestCodersAreApart(t *testing.T) {
	all := drawn(300)
	alone := arith.NewEncoder(most)
	for _, x := range all {
		x.put(alone)
	}
	one, two := arith.NewEncoder(most), arith.NewEncoder(most)
	d, other := arith.NewDecoder(alone.Bytes(), most), arith.NewDecoder([]byte("other bytes"), most)
	for i, x := range all {
		all[len(all)-1-i].put(two)
		x.put(one)
		all[len(all)-1-i].get(other)
		if got := x.get(d); got != x.v {
			t.Fatalf("item %d: %d, not %d", i, got, x.v)
		}
	}
	wantState(t, "beside another", one, alone)
}

// fuzzSet is a set of contexts by bytes, some of them wrong ones.
func fuzzSet(b []byte) api.Set {
	var all []int
	for _, c := range append(slices.Clone(b), 1, 2) {
		all = append(all, int(c)-2)
	}
	return api.Set{Data: all[0], Sign: all[1], Follow: all[2:]}
}

// fuzzRight: is the set right for a coder of so many contexts?
func fuzzRight(s api.Set, contexts int) bool {
	is := len(s.Follow) > 0
	for _, c := range append([]int{s.Data, s.Sign}, s.Follow...) {
		is = is && c >= 0 && c < contexts
	}
	return is
}

func FuzzAnyBytesSetsAndNumbers(f *testing.F) {
	f.Add([]byte("any bytes"), []byte{5, 6, 2, 3, 4}, 5, -100)
	f.Add([]byte{}, []byte{3, 3}, 1, greatest)
	f.Add([]byte{0, 0, 0xff}, []byte{2, 1, 9}, 64, greatest+1)
	f.Add([]byte{0xff}, []byte{2, 2, 65, 66}, 64, math.MinInt)
	f.Fuzz(func(t *testing.T, b, contexts []byte, count, v int) {
		s := fuzzSet(contexts)
		d, p := arith.NewDecoder(b, count), arith.NewDecoder(b, count)
		e, w := arith.NewEncoder(count), arith.NewEncoder(count)
		is := fuzzRight(s, len(d.Chances()))
		for range 5 {
			var want, wantSigned int
			if is {
				want, wantSigned = read(p, s), readSigned(p, s)
			}
			if got, and := bins.Get(d, s), bins.GetSigned(d, s); got != want || and != wantSigned {
				t.Fatalf("%d, %d, not %d, %d", got, and, want, wantSigned)
			}
			wantReadState(t, "decoder", d, p)
			for _, v := range []int{v, want, wantSigned} {
				may, maySigned := is && v >= 0 && v <= greatest, is && v >= -greatest && v <= greatest
				if may {
					bitsInto(w, words(s, v))
				}
				if maySigned {
					bitsInto(w, signedWords(s, v))
				}
				if bins.Put(e, s, v) != may || bins.PutSigned(e, s, v) != maySigned {
					t.Fatalf("Put of %d isn't %v, or with a sign %v", v, may, maySigned)
				}
				wantState(t, "encoder", e, w)
			}
		}
	})
}
