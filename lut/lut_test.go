package lut_test

import (
	"math"
	"slices"
	"testing"

	"shingle/api"
	"shingle/lut"
)

const (
	lastStep   = 255
	lastChance = 65535
	firstEver  = 32768 // the chance that a context begins with
)

// factors and offsets of all quantisers, worked out by the chapter's words ahead of the program.
var (
	factors = []int{
		4, 5, 6, 7, 8, 10, 11, 13, 16, 19, 23, 27, 32, 38, 45,
		54, 64, 76, 91, 108, 128, 152, 181, 215, 256, 304, 362, 431, 512, 609,
		724, 861, 1024, 1218, 1448, 1722, 2048, 2435, 2896, 3444, 4096, 4871, 5793, 6889, 8192,
		9742, 11585, 13777, 16384, 19484, 23170, 27554, 32768, 38968, 46341, 55109, 65536, 77936, 92682, 110218,
		131072,
	}
	offsets = []int{
		1, 2, 3, 4, 4, 5, 6, 7, 8, 10, 12, 14, 16, 19, 23,
		27, 32, 38, 46, 54, 64, 76, 91, 108, 128, 152, 181, 216, 256, 305,
		362, 431, 512, 609, 724, 861, 1024, 1218, 1448, 1722, 2048, 2436, 2897, 3445, 4096,
		4871, 5793, 6889, 8192, 9742, 11585, 13777, 16384, 19484, 23171, 27555, 32768, 38968, 46341, 55109,
		65536,
	}
	interOffsets = []int{
		1, 2, 2, 3, 3, 4, 4, 5, 6, 7, 9, 10, 12, 14, 17,
		20, 24, 29, 34, 41, 48, 57, 68, 81, 96, 114, 136, 162, 192, 228,
		272, 323, 384, 457, 543, 646, 768, 913, 1086, 1292, 1536, 1827, 2172, 2583, 3072,
		3653, 4344, 5166, 6144, 7307, 8689, 10333, 12288, 14613, 17378, 20666, 24576, 29226, 34756, 41332,
		49152,
	}
)

// below 0, to the least int.
func below() []int {
	return []int{-1, -2, -3, -4, -5, -60, -61, -96, -128, -255, -256, -384, -385, -512, -1 << 15, -1 << 16,
		-1 << 31, -1 << 32, -1<<32 + 5, -1 << 62, math.MinInt + 4, math.MinInt + 1, math.MinInt}
}

// above a number, to the greatest int.
func above(most int) []int {
	return []int{most + 1, most + 2, most + 3, most + 4, 2*most + 1, most + 1<<16, most + 1<<31, 1 << 32, 1<<32 + 5,
		1 << 40, 1 << 62, 1<<63 - 4, math.MaxInt - 1, math.MaxInt}
}

// want holds what a call answered against a number.
func want(t *testing.T, what string, of, got, number int) {
	t.Helper()
	if got != number {
		t.Errorf("%s(%d): %d, not %d", what, of, got, number)
	}
}

// quotient without what is left: how often a divisor goes into a number that isn't below 0.
func quotient(number, divisor int) int {
	n := 0
	for (n+1)*divisor <= number {
		n++
	}
	return n
}

// allSteps by the chapter's words.
func allSteps() []int {
	all := make([]int, lastStep+1)
	for i := range all {
		all[i] = quotient(i*(i+384), 96)
	}
	return all
}

// P4.1: steps, and chances that move by them.

func TestStep(t *testing.T) {
	for i, step := range allSteps() {
		want(t, "Step", i, lut.Step(i), step)
	}
	for i, step := range map[int]int{0: 0, 1: 4, 9: 36, 10: 41, 96: 480, 127: 676, 128: 682, 254: 1688, 255: 1697} {
		want(t, "Step", i, lut.Step(i), step)
	}
}

func TestStepOfAnother(t *testing.T) {
	for _, i := range append(below(), above(lastStep)...) {
		want(t, "Step", i, lut.Step(i), 0)
	}
}

func TestSteps(t *testing.T) {
	all := lut.Steps()
	for i, step := range all {
		want(t, "Steps and Step", i, step, lut.Step(i))
	}
	if !slices.Equal(all[:], allSteps()) {
		t.Errorf("Steps: %d", all)
	}
}

func TestStepsAreNew(t *testing.T) {
	all := lut.Steps()
	for i := range all {
		all[i] = -1
	}
	again := lut.Steps()
	if !slices.Equal(again[:], allSteps()) {
		t.Error("a change to what Steps answered is seen")
	}
	want(t, "Step behind it", 128, lut.Step(128), 682)
}

func TestLessAndMore(t *testing.T) {
	steps := allSteps()
	for p := range lastChance + 1 {
		want(t, "Less", p, lut.Less(p), p-steps[p/256])
		want(t, "More", p, lut.More(p), p+steps[255-p/256])
	}
}

func TestLessAndMoreAtTheEdges(t *testing.T) {
	for p, less := range map[int]int{0: 0, 255: 255, 256: 252, 511: 507, 512: 504, 32767: 32091, 32768: 32086, 65279: 63591, 65280: 63583, 65535: 63838} {
		want(t, "Less", p, lut.Less(p), less)
	}
	for p, more := range map[int]int{0: 1697, 255: 1952, 256: 1944, 32767: 33449, 32768: 33444, 65023: 65031, 65024: 65028, 65279: 65283, 65280: 65280, 65535: 65535} {
		want(t, "More", p, lut.More(p), more)
	}
}

func TestOtherChancesCountAsTheNearerEnd(t *testing.T) {
	for _, p := range below() {
		want(t, "Less", p, lut.Less(p), 0)
		want(t, "More", p, lut.More(p), 1697)
	}
	for _, p := range above(lastChance) {
		want(t, "Less", p, lut.Less(p), 63838)
		want(t, "More", p, lut.More(p), 65535)
	}
}

// P4.2: factors and offsets.

func TestFactor(t *testing.T) {
	for q, factor := range factors {
		want(t, "Factor", q, lut.Factor(q), factor)
	}
}

func TestFactorByTheChaptersWords(t *testing.T) {
	for q := range api.MostQuant + 1 {
		b := 1
		for range q / 4 {
			b *= 2
		}
		reckoned := []int{
			4 * b,
			quotient(503829*b+52958, 105917),
			quotient(665857*b+58854, 117708),
			quotient(440253*b+32722, 65444),
		}
		want(t, "Factor", q, lut.Factor(q), reckoned[q%4])
	}
}

func TestOffset(t *testing.T) {
	for q := range api.MostQuant + 1 {
		want(t, "Offset by itself", q, lut.Offset(q, false), offsets[q])
		want(t, "Offset by others", q, lut.Offset(q, true), interOffsets[q])
	}
}

func TestOffsetByTheChaptersWords(t *testing.T) {
	// From 2 on by itself, and from 1 on by others, an offset hangs on the factor alone.
	for q := 2; q <= api.MostQuant; q++ {
		want(t, "Offset by itself", q, lut.Offset(q, false), quotient(lut.Factor(q)+1, 2))
	}
	for q := 1; q <= api.MostQuant; q++ {
		want(t, "Offset by others", q, lut.Offset(q, true), quotient(3*lut.Factor(q)+4, 8))
	}
}

func TestFirstOffsets(t *testing.T) {
	for q, offset := range []int{1, 2, 3} {
		want(t, "Offset by itself", q, lut.Offset(q, false), offset)
	}
	for q, offset := range []int{1, 2, 2} {
		want(t, "Offset by others", q, lut.Offset(q, true), offset)
	}
}

func TestOtherQuantisersHaveNone(t *testing.T) {
	for _, q := range append(below(), above(api.MostQuant)...) {
		want(t, "Factor", q, lut.Factor(q), 0)
		want(t, "Offset by itself", q, lut.Offset(q, false), 0)
		want(t, "Offset by others", q, lut.Offset(q, true), 0)
	}
}

func TestFactors(t *testing.T) {
	all := lut.Factors()
	if !slices.Equal(all, factors) {
		t.Errorf("Factors: %d", all)
	}
	for q, factor := range all {
		want(t, "Factors and Factor", q, factor, lut.Factor(q))
	}
}

func TestFactorsAreNewMemory(t *testing.T) {
	first, second := lut.Factors(), lut.Factors()
	room := first[:cap(first)]
	for i := range room {
		room[i] = -1
	}
	if !slices.Equal(second, factors) {
		t.Error("a change to what Factors answered is seen in what it answered otherwise")
	}
	if !slices.Equal(lut.Factors(), factors) {
		t.Error("a change to what Factors answered is seen by the next call")
	}
	for q, factor := range factors {
		want(t, "Factor behind it", q, lut.Factor(q), factor)
		want(t, "Offset behind it", q, lut.Offset(q, false), offsets[q])
	}
}

// P4.3: what chances come to, and how factors and offsets lie.

// reached: every chance that Less and More come to from the first one on, in whatever order.
func reached() []int {
	var seen [lastChance + 1]bool
	seen[firstEver] = true
	all := []int{firstEver}
	for i := 0; i < len(all); i++ {
		for _, p := range []int{lut.Less(all[i]), lut.More(all[i])} {
			if p < 0 || p > lastChance {
				return []int{p}
			}
			if !seen[p] {
				seen[p] = true
				all = append(all, p)
			}
		}
	}
	return all
}

func TestChancesStayWithinBounds(t *testing.T) {
	all := reached()
	if least, most := slices.Min(all), slices.Max(all); least != 252 || most != 65283 {
		t.Errorf("%d chances are come to, from %d to %d", len(all), least, most)
	}
}

func TestChancesThatMoveOneWay(t *testing.T) {
	less, more := firstEver, firstEver
	for range 1 << 12 {
		nextLess, nextMore := lut.Less(less), lut.More(more)
		if nextLess > less || nextLess < 252 {
			t.Fatalf("Less(%d): %d", less, nextLess)
		}
		if nextMore < more || nextMore > 65283 {
			t.Fatalf("More(%d): %d", more, nextMore)
		}
		less, more = nextLess, nextMore
	}
	if less >= 256 || more < 65280 {
		t.Errorf("the chances stay at %d and %d", less, more)
	}
}

func TestFactorsRise(t *testing.T) {
	for q := range api.MostQuant {
		if lut.Factor(q) >= lut.Factor(q+1) {
			t.Errorf("the factor of %d is %d, of the next one %d", q, lut.Factor(q), lut.Factor(q+1))
		}
	}
}

func TestOffsetsAreLessThanFactors(t *testing.T) {
	for q := range api.MostQuant + 1 {
		for _, inter := range []bool{false, true} {
			if offset := lut.Offset(q, inter); offset < 1 || offset >= lut.Factor(q) {
				t.Errorf("Offset(%d, %v): %d, the factor is %d", q, inter, offset, lut.Factor(q))
			}
		}
	}
}

func TestExamples(t *testing.T) {
	want(t, "Step", 128, lut.Step(128), 682)
	want(t, "Factor", 5, lut.Factor(5), 10)
}
