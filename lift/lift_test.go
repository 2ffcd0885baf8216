package lift_test

import (
	"encoding/binary"
	"fmt"
	"math"
	"math/big"
	"slices"
	"testing"

	"shingle/api"
	"shingle/lift"
)

const (
	least    = math.MinInt
	greatest = math.MaxInt
)

// source of numbers for the tests, the same in each run.
type source uint64

func (s *source) next() int {
	*s ^= *s << 13
	*s ^= *s >> 7
	*s ^= *s << 17
	return int(*s)
}

// drawn numbers of as many bits as are asked for, on both sides of 0.
func drawn(count int, bits uint) []int {
	s := source(0x3c6ef372fe94f82b + uint64(count)<<8 + uint64(bits))
	l := make([]int, count)
	for i := range l {
		l[i] = s.next() >> (64 - bits)
	}
	return l
}

// edged numbers: each one at, or beside, an end of what 64 bits hold, or beside 0.
func edged(count int) []int {
	ends := []int{least, least + 1, -2, -1, 0, 1, 2, greatest - 1, greatest}
	s := source(0xa54ff53a5f1d36f1 + uint64(count))
	l := make([]int, count)
	for i := range l {
		l[i] = ends[uint(s.next())%uint(len(ends))]
	}
	return l
}

// filters: all that there are.
func filters() []api.Filter {
	return []api.Filter{api.Dubuc97, api.LeGall, api.Dubuc137, api.Haar, api.HaarOne}
}

// wrongFilters that there aren't.
func wrongFilters() []api.Filter {
	return []api.Filter{-1, -2, -5, 5, 6, 7, 8, 9, 255, 256, 257, 1 << 32, 1<<32 + 1, -1 << 32, greatest - 1, greatest, least, least + 1, least + 3}
}

// lines by name: of each length at which a step asks for places that aren't there, and longer ones.
func lines() map[string][]int {
	out := map[string][]int{}
	for _, count := range []int{2, 4, 6, 8, 10, 12, 14, 16, 18, 30, 64, 254, 1024, 3000} {
		for _, bits := range []uint{2, 5, 9, 17, 41, 62, 63, 64} {
			out[fmt.Sprint(count, " numbers of ", bits, " bits")] = drawn(count, bits)
		}
		out[fmt.Sprint(count, " numbers at the ends")] = edged(count)
		for _, n := range []int{0, 1, -1, -7, least, greatest} {
			out[fmt.Sprint(count, " times ", n)] = slices.Repeat([]int{n}, count)
		}
	}
	return out
}

// wrongLines that are none.
func wrongLines() map[string][]int {
	out := map[string][]int{
		"nil":        nil,
		"empty":      {},
		"room alone": make([]int, 0, 4),
	}
	for _, count := range []int{1, 3, 5, 7, 9, 15, 1023, 1025} {
		out[fmt.Sprint(count, " numbers")] = drawn(count, 20)
	}
	return out
}

func wantList(t *testing.T, what string, got, want []int) {
	t.Helper()
	if !slices.Equal(got, want) {
		t.Fatalf("%s: %v, not %v", what, got, want)
	}
}

func wantNone(t *testing.T, what string, got []int) {
	t.Helper()
	if len(got) != 0 {
		t.Fatalf("%s: %v, not none", what, got)
	}
}

// term of a step: how often the number so far away counts.
type term struct{ away, times int }

// step of a filter by the chapter's words: a sum, and by how much it is moved down.
type step struct {
	terms []term
	plus  int
	down  uint
}

func near(plus int, down uint) step { return step{[]term{{-1, 1}, {1, 1}}, plus, down} }

func wide(plus int, down uint) step {
	return step{[]term{{-3, -1}, {-1, 9}, {1, 9}, {3, -1}}, plus, down}
}

func evenStep(f api.Filter) step {
	return map[api.Filter]step{
		api.LeGall:   near(2, 2),
		api.Dubuc97:  near(2, 2),
		api.Dubuc137: wide(16, 5),
		api.Haar:     {[]term{{1, 1}}, 1, 1},
		api.HaarOne:  {[]term{{1, 1}}, 1, 1},
	}[f]
}

func oddStep(f api.Filter) step {
	return map[api.Filter]step{
		api.LeGall:   near(1, 1),
		api.Dubuc97:  wide(8, 4),
		api.Dubuc137: wide(8, 4),
		api.Haar:     {[]term{{-1, 1}}, 0, 0},
		api.HaarOne:  {[]term{{-1, 1}}, 0, 0},
	}[f]
}

// nearest place to i that there is, and that is even or odd as i is.
func nearest(i, count int) int {
	for i < 0 {
		i += 2
	}
	for i >= count {
		i -= 2
	}
	return i
}

// wrapped: the lowest 64 bits of a number of any size.
func wrapped(b *big.Int) int {
	low := new(big.Int).And(b, new(big.Int).SetUint64(math.MaxUint64))
	return int(low.Uint64())
}

// at a place: what the step makes of the line, reckoned in numbers of any size and cut to 64 bits ahead of the division.
func (s step) at(l []int, i int) int {
	sum := big.NewInt(int64(s.plus))
	for _, m := range s.terms {
		v := big.NewInt(int64(l[nearest(i+m.away, len(l))]))
		sum.Add(sum, v.Mul(v, big.NewInt(int64(m.times))))
	}
	down := new(big.Int).Lsh(big.NewInt(1), s.down)
	return int(new(big.Int).Div(big.NewInt(int64(wrapped(sum))), down).Int64())
}

// over each second place from the first one on: the step, so many times.
func (s step) over(l []int, first, times int) []int {
	out := slices.Clone(l)
	for i := first; i < len(l); i += 2 {
		out[i] = wrapped(new(big.Int).Add(big.NewInt(int64(l[i])), big.NewInt(int64(times*s.at(l, i)))))
	}
	return out
}

// forward by the chapter's words.
func forward(f api.Filter, l []int) []int {
	return evenStep(f).over(oddStep(f).over(l, 1, -1), 0, 1)
}

// inverse by the chapter's words.
func inverse(f api.Filter, l []int) []int {
	return oddStep(f).over(evenStep(f).over(l, 0, -1), 1, 1)
}

// P8.1: filters, their shifts, their steps.

func TestRight(t *testing.T) {
	for _, f := range filters() {
		if !lift.Right(f) {
			t.Errorf("%d isn't right", f)
		}
	}
	for _, f := range wrongFilters() {
		if lift.Right(f) {
			t.Errorf("%d is right", f)
		}
	}
}

func TestShift(t *testing.T) {
	for f, want := range map[api.Filter]int{api.Dubuc97: 1, api.LeGall: 1, api.Dubuc137: 1, api.Haar: 0, api.HaarOne: 1} {
		if got := lift.Shift(f); got != want {
			t.Errorf("%d: %d, not %d", f, got, want)
		}
	}
	for _, f := range wrongFilters() {
		if got := lift.Shift(f); got != 0 {
			t.Errorf("%d: %d, not 0", f, got)
		}
	}
}

func TestTheExample(t *testing.T) {
	wantList(t, "Haar", lift.Forward(api.Haar, []int{4, 6}), []int{5, 2})
	wantList(t, "HaarOne", lift.Forward(api.HaarOne, []int{4, 6}), []int{5, 2})
	wantList(t, "Haar, back", lift.Inverse(api.Haar, []int{5, 2}), []int{4, 6})
}

// worked: what Forward and Inverse make of a line.
type worked struct {
	line, there, back []int
}

// wantWorked of each filter that it is the case of.
func wantWorked(t *testing.T, cases map[api.Filter][]worked) {
	t.Helper()
	for f, list := range cases {
		for _, c := range list {
			wantList(t, fmt.Sprint("Forward ", f, " of ", c.line), lift.Forward(f, c.line), c.there)
			wantList(t, fmt.Sprint("Inverse ", f, " of ", c.line), lift.Inverse(f, c.line), c.back)
		}
	}
}

func TestOrdinaryLinesThatWereWorkedOut(t *testing.T) {
	l := []int{10, 12, 20, 7, 5, 5, 8, 100}
	six := []int{10, -1, 7, -8, 100, 3}
	haar := []worked{
		{l, []int{11, 2, 14, -13, 5, 0, 54, 92}, []int{4, 16, 16, 23, 2, 7, -42, 58}},
		{six, []int{5, -11, 0, -15, 52, -97}, []int{10, 9, 11, 3, 98, 101}},
	}
	wantWorked(t, map[api.Filter][]worked{
		api.Dubuc97: {
			{l, []int{8, -4, 18, -6, 3, -1, 31, 92}, []int{4, 22, 15, 17, 2, -4, -18, 81}},
			{six, []int{8, -4, -9, -61, 59, -103}, []int{10, 3, 9, 47, 101, 110}},
		},
		api.LeGall: {
			{l, []int{9, -3, 18, -6, 3, -2, 31, 92}, []int{4, 22, 15, 16, 2, -3, -18, 82}},
			{six, []int{5, -10, -11, -62, 60, -97}, []int{10, 9, 9, 47, 101, 104}},
		},
		api.Dubuc137: {
			{l, []int{8, -4, 17, -6, 0, -1, 31, 92}, []int{4, 22, 15, 19, 5, -2, -18, 81}},
			{six, []int{10, -4, -8, -61, 57, -103}, []int{10, 3, 10, 48, 101, 110}},
		},
		api.Haar:    haar,
		api.HaarOne: haar,
	})
}

// A line of two asks for places on both sides of it at each of its steps, one of four for the far ones.
func TestShortLinesThatWereWorkedOut(t *testing.T) {
	two := worked{[]int{4, 6}, []int{5, 2}, []int{1, 7}}
	below := worked{[]int{-3, -4}, []int{-3, -1}, []int{-1, -5}}
	four := []int{-7, 10, -20, 3}
	haar := []worked{two, below, {four, []int{2, 17, -8, 23}, []int{-12, -2, -22, -19}}}
	wantWorked(t, map[api.Filter][]worked{
		api.Dubuc97:  {two, below, {four, []int{5, 23, -8, 24}, []int{-12, -7, -23, -21}}},
		api.LeGall:   {two, below, {four, []int{5, 23, -8, 23}, []int{-12, -7, -23, -20}}},
		api.Dubuc137: {two, below, {four, []int{4, 23, -8, 24}, []int{-12, -7, -23, -21}}},
		api.Haar:     haar,
		api.HaarOne:  haar,
	})
}

// One number among noughts tells each factor of a step.
func TestOneNumberThatWasWorkedOut(t *testing.T) {
	even := []int{0, 0, 0, 0, 16, 0, 0, 0, 0, 0}
	odd := []int{0, 0, 0, 0, 0, 16, 0, 0, 0, 0}
	haar := []worked{
		{even, []int{0, 0, 0, 0, 8, -16, 0, 0, 0, 0}, []int{0, 0, 0, 0, 16, 16, 0, 0, 0, 0}},
		{odd, []int{0, 0, 0, 0, 8, 16, 0, 0, 0, 0}, []int{0, 0, 0, 0, -8, 8, 0, 0, 0, 0}},
	}
	wantWorked(t, map[api.Filter][]worked{
		api.Dubuc97: {
			{even, []int{1, 1, -2, -9, 12, -9, -2, 1, 0, 0}, []int{0, -1, 0, 9, 16, 9, 0, -1, 0, 0}},
			{odd, []int{0, 0, 0, 0, 4, 16, 4, 0, 0, 0}, []int{0, 0, 0, -2, -4, 12, -4, -2, 0, 0}},
		},
		api.LeGall: {
			{even, []int{0, 0, -2, -8, 12, -8, -2, 0, 0, 0}, []int{0, 0, 0, 8, 16, 8, 0, 0, 0, 0}},
			{odd, []int{0, 0, 0, 0, 4, 16, 4, 0, 0, 0}, []int{0, 0, 0, -2, -4, 12, -4, -2, 0, 0}},
		},
		api.Dubuc137: {
			{even, []int{1, 1, -2, -9, 11, -9, -2, 1, 1, 0}, []int{0, -1, 0, 9, 16, 9, 0, -1, 0, 0}},
			{odd, []int{0, 0, 0, 0, 5, 16, 5, 0, 0, 0}, []int{0, 0, 0, -2, -5, 10, -5, -2, 0, 0}},
		},
		api.Haar:    haar,
		api.HaarOne: haar,
	})
}

// What goes beyond 64 bits is lost ahead of the division.
func TestNumbersAtTheEndsThatWereWorkedOut(t *testing.T) {
	same := []int{greatest, greatest, greatest, greatest}
	round := worked{same, []int{greatest, least, greatest, least}, []int{greatest, greatest - 1, greatest, greatest - 1}}
	apart := worked{[]int{greatest, least}, []int{least, least + 1}, []int{greatest, greatest}}
	haar := []worked{
		{same, []int{greatest, 0, greatest, 0}, []int{-1<<62 - 1, 1<<62 - 2, -1<<62 - 1, 1<<62 - 2}},
		{[]int{greatest, least}, []int{least, 1}, []int{-1<<62 - 1, 1<<62 - 1}},
		{[]int{least, 0}, []int{1 << 62, least}, []int{least, least}},
		{[]int{0, least}, []int{-1 << 62, least}, []int{1 << 62, -1 << 62}},
	}
	wantWorked(t, map[api.Filter][]worked{
		api.Dubuc97:  {round, apart},
		api.LeGall:   {round, apart},
		api.Dubuc137: {round, apart},
		api.Haar:     haar,
		api.HaarOne:  haar,
	})
}

// To move down is to the next lower number: a step of -1 where one towards nought, or to the nearest one, would be none.
func TestMovedDownBelowNought(t *testing.T) {
	for _, f := range filters() {
		_, high := lift.Part(lift.Forward(f, []int{-1, 0, -1, 0, -1, 0, -1, 0}))
		wantList(t, fmt.Sprint(f, ", odd places"), high, []int{1, 1, 1, 1})
	}
	wantList(t, "LeGall, even places", lift.Forward(api.LeGall, []int{0, -2}), []int{-1, -2})
	wantList(t, "LeGall, even places of three quarters", lift.Forward(api.LeGall, []int{0, -3, 0, 0}), []int{-1, -3, -1, 0})
	wantList(t, "Dubuc137, even places", lift.Forward(api.Dubuc137, []int{0, -2}), []int{-1, -2})
	wantList(t, "Haar, even places", lift.Forward(api.Haar, []int{0, -2}), []int{-1, -2})
	wantList(t, "Haar, even places of a half", lift.Forward(api.Haar, []int{0, -3}), []int{-1, -3})
	wantList(t, "LeGall, odd places of a half", lift.Forward(api.LeGall, []int{-3, 0, -2, 0}), []int{-2, 2, -1, 2})
}

func TestStepsByTheChaptersWords(t *testing.T) {
	for name, l := range lines() {
		for _, f := range filters() {
			wantList(t, fmt.Sprint("Forward ", f, " of ", name), lift.Forward(f, l), forward(f, l))
			wantList(t, fmt.Sprint("Inverse ", f, " of ", name), lift.Inverse(f, l), inverse(f, l))
		}
	}
}

// Each place by itself, so that no number of another one hides what the step there is.
func TestOneNumberAtEachPlace(t *testing.T) {
	for _, count := range []int{2, 4, 6, 8, 10, 16} {
		for i := range count {
			for _, n := range []int{1, -1, 1000, -1000, least, greatest} {
				l := make([]int, count)
				l[i] = n
				for _, f := range filters() {
					what := fmt.Sprint(" ", f, " of ", n, " at ", i, " of ", count)
					wantList(t, "Forward"+what, lift.Forward(f, l), forward(f, l))
					wantList(t, "Inverse"+what, lift.Inverse(f, l), inverse(f, l))
				}
			}
		}
	}
}

func TestHaarAndHaarOneHaveTheSameSteps(t *testing.T) {
	for name, l := range lines() {
		wantList(t, "Forward of "+name, lift.Forward(api.HaarOne, l), lift.Forward(api.Haar, l))
		wantList(t, "Inverse of "+name, lift.Inverse(api.HaarOne, l), lift.Inverse(api.Haar, l))
	}
}

func TestNoneOfWrongFilters(t *testing.T) {
	for _, f := range wrongFilters() {
		for name, l := range map[string][]int{"two": {4, 6}, "eight": drawn(8, 9), "none": nil, "one": {1}} {
			wantNone(t, fmt.Sprint("Forward ", f, " of ", name), lift.Forward(f, l))
			wantNone(t, fmt.Sprint("Inverse ", f, " of ", name), lift.Inverse(f, l))
		}
	}
}

func TestNoneOfWhatIsNoLine(t *testing.T) {
	for name, l := range wrongLines() {
		for _, f := range filters() {
			wantNone(t, fmt.Sprint("Forward ", f, " of ", name), lift.Forward(f, l))
			wantNone(t, fmt.Sprint("Inverse ", f, " of ", name), lift.Inverse(f, l))
		}
	}
}

// P8.2: a line in two lists, and two lists as a line.

func TestPartAndWeaveThatWereWorkedOut(t *testing.T) {
	low, high := lift.Part([]int{1, 2, 3, 4, 5, 6})
	wantList(t, "even places", low, []int{1, 3, 5})
	wantList(t, "odd places", high, []int{2, 4, 6})
	low, high = lift.Part([]int{7, -8})
	wantList(t, "the first", low, []int{7})
	wantList(t, "the second", high, []int{-8})
	wantList(t, "woven", lift.Weave([]int{1, 3, 5}, []int{2, 4, 6}), []int{1, 2, 3, 4, 5, 6})
	wantList(t, "woven of one", lift.Weave([]int{least}, []int{greatest}), []int{least, greatest})
}

func TestPartOfEachPlace(t *testing.T) {
	for name, l := range lines() {
		low, high := lift.Part(l)
		if len(low) != len(l)/2 || len(high) != len(l)/2 {
			t.Fatalf("%s: %d and %d numbers", name, len(low), len(high))
		}
		for i, n := range l {
			if got := [][]int{low, high}[i%2][i/2]; got != n {
				t.Fatalf("%s: %d, not %d, at %d", name, got, n, i)
			}
		}
	}
}

func TestWeaveOfEachPlace(t *testing.T) {
	for _, count := range []int{1, 2, 3, 4, 5, 17, 512, 1500} {
		low, high := drawn(count, 64), drawn(count, 33)
		l := lift.Weave(low, high)
		if len(l) != 2*count {
			t.Fatalf("%d numbers of twice %d", len(l), count)
		}
		for i, n := range l {
			if want := [][]int{low, high}[i%2][i/2]; n != want {
				t.Fatalf("%d: %d, not %d, at %d", count, n, want, i)
			}
		}
	}
}

func TestPartAndWeaveAreOneOfTheOther(t *testing.T) {
	for name, l := range lines() {
		wantList(t, name, lift.Weave(lift.Part(l)), l)
	}
	for _, count := range []int{1, 2, 3, 8, 101} {
		a, b := drawn(count, 64), edged(count)
		low, high := lift.Part(lift.Weave(a, b))
		wantList(t, "even places", low, a)
		wantList(t, "odd places", high, b)
	}
}

func TestPartOfWhatIsNoLine(t *testing.T) {
	for name, l := range wrongLines() {
		low, high := lift.Part(l)
		wantNone(t, "even places of "+name, low)
		wantNone(t, "odd places of "+name, high)
	}
}

func TestWeaveOfUnlikeLists(t *testing.T) {
	counts := []int{0, 1, 2, 3, 4, 7, 8, 100}
	for _, m := range counts {
		for _, n := range counts {
			if m != n {
				wantNone(t, fmt.Sprint(m, " and ", n), lift.Weave(drawn(m, 9), drawn(n, 9)))
			}
		}
	}
}

func TestWeaveOfEmptyLists(t *testing.T) {
	for _, low := range [][]int{nil, {}, make([]int, 0, 3)} {
		for _, high := range [][]int{nil, {}, make([]int, 0, 3)} {
			wantNone(t, "empty", lift.Weave(low, high))
		}
	}
}

// P8.3: there and back.

func TestInverseTakesBackForward(t *testing.T) {
	for name, l := range lines() {
		for _, f := range filters() {
			wantList(t, fmt.Sprint(f, " of ", name), lift.Inverse(f, lift.Forward(f, l)), l)
		}
	}
}

func TestForwardTakesBackInverse(t *testing.T) {
	for name, l := range lines() {
		for _, f := range filters() {
			wantList(t, fmt.Sprint(f, " of ", name), lift.Forward(f, lift.Inverse(f, l)), l)
		}
	}
}

// All lines of two and of four of some numbers, whose sums go beyond, or don't.
func TestThereAndBackOfAllShortLines(t *testing.T) {
	some := []int{least, least + 1, -3, -1, 0, 1, 2, greatest - 1, greatest}
	var all [][]int
	for _, a := range some {
		for _, b := range some {
			all = append(all, []int{a, b})
			for _, c := range some {
				for _, d := range some {
					all = append(all, []int{a, b, c, d})
				}
			}
		}
	}
	for _, l := range all {
		for _, f := range filters() {
			there, back := lift.Forward(f, l), lift.Inverse(f, l)
			wantList(t, fmt.Sprint(f, " there of ", l), there, forward(f, l))
			wantList(t, fmt.Sprint(f, " back of ", l), back, inverse(f, l))
			wantList(t, fmt.Sprint(f, " there and back"), lift.Inverse(f, there), l)
			wantList(t, fmt.Sprint(f, " back and there"), lift.Forward(f, back), l)
		}
	}
}

// Memory: what is handed in stays as it is, answers are new.

// makers: each call that answers lists of two.
func makers() map[string]func(a, b []int) [][]int {
	out := map[string]func(a, b []int) [][]int{
		"Part":  func(a, _ []int) [][]int { low, high := lift.Part(a); return [][]int{low, high} },
		"Weave": func(a, b []int) [][]int { return [][]int{lift.Weave(a, b)} },
	}
	for _, f := range filters() {
		out[fmt.Sprint("Forward ", f)] = func(a, _ []int) [][]int { return [][]int{lift.Forward(f, a)} }
		out[fmt.Sprint("Inverse ", f)] = func(a, _ []int) [][]int { return [][]int{lift.Inverse(f, a)} }
	}
	return out
}

// roomy: the list with spare room behind it, and all of its memory.
func roomy(l []int) ([]int, []int) {
	whole := append(slices.Clone(l), 901, 902, 903, 904, 905, 906, 907, 908, 909, 910)
	return whole[:len(l)], whole
}

// cloned lists of an answer.
func cloned(lists [][]int) [][]int {
	var out [][]int
	for _, l := range lists {
		out = append(out, slices.Clone(l))
	}
	return out
}

// filled: each number of the list's memory, its spare room too.
func filled(l []int, n int) {
	l = l[:cap(l)]
	for i := range l {
		l[i] = n
	}
}

func wantLists(t *testing.T, what string, got, want [][]int) {
	t.Helper()
	for i := range want {
		wantList(t, fmt.Sprint(what, ", list ", i), got[i], want[i])
	}
}

func TestListsAreNeitherChangedNorKept(t *testing.T) {
	for name, call := range makers() {
		for _, counts := range [][2]int{{2, 2}, {8, 8}, {30, 30}, {1, 1}, {3, 3}, {0, 0}, {4, 2}, {3, 8}} {
			a, wholeA := roomy(drawn(counts[0], 40))
			b, wholeB := roomy(drawn(counts[1], 50))
			wasA, wasB := slices.Clone(wholeA), slices.Clone(wholeB)
			got := call(a, b)
			what := fmt.Sprint(name, " of ", counts)
			wantList(t, what+", first argument", wholeA, wasA)
			wantList(t, what+", second argument", wholeB, wasB)
			want := cloned(got)
			filled(wholeA, -1)
			filled(wholeB, -1)
			wantLists(t, what+", behind a change", got, want)
		}
	}
}

func TestAnswersAreNewMemory(t *testing.T) {
	for name, call := range makers() {
		for _, count := range []int{2, 8, 30} {
			a, wholeA := roomy(drawn(count, 40))
			b, wholeB := roomy(drawn(count, 50))
			wasA, wasB := slices.Clone(wholeA), slices.Clone(wholeB)
			want := cloned(call(a, b))
			for _, l := range call(a, b) {
				filled(l, -1)
			}
			wantList(t, name+", first argument", wholeA, wasA)
			wantList(t, name+", second argument", wholeB, wasB)
			wantLists(t, name+", asked again", call(a, b), want)
		}
	}
}

func TestBothListsOfPartAreApart(t *testing.T) {
	for _, count := range []int{2, 8, 30} {
		l := drawn(count, 40)
		wantLow, wantHigh := lift.Part(l)
		low, high := lift.Part(l)
		filled(low, -1)
		wantList(t, "odd places behind a change", high, wantHigh)
		low, high = lift.Part(l)
		filled(high, -1)
		wantList(t, "even places behind a change", low, wantLow)
	}
}

// One list as both arguments is two lists to weave.
func TestWeaveOfOneListTwice(t *testing.T) {
	l := []int{1, 2, 3}
	wantList(t, "twice", lift.Weave(l, l), []int{1, 1, 2, 2, 3, 3})
	wantList(t, "as it was", l, []int{1, 2, 3})
}

func FuzzAnyLists(f *testing.F) {
	f.Add(0, []byte("4...6..."), 0)
	f.Add(2, make([]byte, 64), 4)
	f.Add(-1, []byte{255, 255, 255, 255, 255, 255, 255, 127, 0, 0, 0, 0, 0, 0, 0, 128}, 1)
	f.Fuzz(func(t *testing.T, kind int, b []byte, place int) {
		var l []int
		for ; len(b) >= 8; b = b[8:] {
			l = append(l, int(binary.LittleEndian.Uint64(b)))
		}
		filter := api.Filter(kind)
		was := slices.Clone(l)
		there, back := lift.Forward(filter, l), lift.Inverse(filter, l)
		low, high := lift.Part(l)
		if isLine := len(l) > 0 && len(l)%2 == 0; !isLine {
			wantNone(t, "Part", low)
			wantNone(t, "Part", high)
			wantNone(t, "Forward", there)
			wantNone(t, "Inverse", back)
		} else {
			wantList(t, "Weave", lift.Weave(low, high), l)
			if kind < 0 || kind > 4 {
				wantNone(t, "Forward", there)
				wantNone(t, "Inverse", back)
			} else {
				wantList(t, "Forward", there, forward(filter, l))
				wantList(t, "Inverse", back, inverse(filter, l))
				wantList(t, "there and back", lift.Inverse(filter, there), l)
				wantList(t, "back and there", lift.Forward(filter, back), l)
			}
		}
		cut := min(max(place, 0), len(l))
		if woven := lift.Weave(l[:cut], l[cut:]); (len(woven) != 0) != (cut > 0 && 2*cut == len(l)) {
			t.Fatalf("Weave of %d and %d: %v", cut, len(l)-cut, woven)
		}
		wantList(t, "as it was", l, was)
	})
}
