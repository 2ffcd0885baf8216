package quant_test

import (
	"math"
	"math/big"
	"slices"
	"testing"

	"shingle/api"
	"shingle/lut"
	"shingle/quant"
)

const (
	least    = math.MinInt
	greatest = math.MaxInt

	mostCode  = 1<<41 - 2
	mostValue = 1 << 42
)

// worked is what a quantiser's answers are, reckoned by a separate script after the words of chapters 11 and 4.
type worked struct {
	there       [4]int // of 1, 1000, 123456789 and mostCode
	back, other [4]int // of 1, 1000, the greatest number whose answer is below mostValue, and that one: by itself, by others
}

// allWorked: of each quantiser.
func allWorked() []worked {
	return []worked{
		{[4]int{1, 1000, 123456789, 2199023255550}, [4]int{1, 1000, 2199023255550, 2199023255550}, [4]int{1, 1000, 2199023255550, 2199023255550}},
		{[4]int{0, 800, 98765431, 1759218604440}, [4]int{2, 1251, 2199023255550, 2748779069438}, [4]int{2, 1251, 2199023255550, 2748779069438}},
		{[4]int{0, 666, 82304526, 1466015503700}, [4]int{2, 1501, 2199023255550, 3298534883326}, [4]int{2, 1501, 2199023255550, 3298534883326}},
		{[4]int{0, 571, 70546736, 1256584717457}, [4]int{3, 1751, 2199023255550, 3848290697214}, [4]int{3, 1751, 2199023255550, 3848290697213}},
		{[4]int{0, 500, 61728394, 1099511627775}, [4]int{3, 2001, 2199023255550, 4398046511101}, [4]int{3, 2001, 2199023255550, 4398046511101}},
		{[4]int{0, 400, 49382715, 879609302220}, [4]int{4, 2501, 1759218604440, 4398046511101}, [4]int{4, 2501, 1759218604440, 4398046511101}},
		{[4]int{0, 363, 44893377, 799644820200}, [4]int{4, 2752, 1599289640400, 4398046511102}, [4]int{4, 2751, 1599289640400, 4398046511101}},
		{[4]int{0, 307, 37986704, 676622540169}, [4]int{5, 3252, 1353245080338, 4398046511100}, [4]int{5, 3251, 1353245080339, 4398046511103}},
		{[4]int{0, 250, 30864197, 549755813887}, [4]int{6, 4002, 1099511627775, 4398046511102}, [4]int{6, 4002, 1099511627775, 4398046511102}},
		{[4]int{0, 210, 25990902, 462952264326}, [4]int{7, 4753, 925904528652, 4398046511100}, [4]int{7, 4752, 925904528652, 4398046511099}},
		{[4]int{0, 173, 21470745, 382438827052}, [4]int{9, 5753, 764877654104, 4398046511101}, [4]int{8, 5752, 764877654104, 4398046511100}},
		{[4]int{0, 148, 18289894, 325781223044}, [4]int{10, 6754, 651562446088, 4398046511098}, [4]int{9, 6753, 651562446089, 4398046511103}},
		{[4]int{0, 125, 15432098, 274877906943}, [4]int{12, 8004, 549755813887, 4398046511100}, [4]int{11, 8003, 549755813887, 4398046511099}},
		{[4]int{0, 105, 12995451, 231476132163}, [4]int{14, 9505, 462952264326, 4398046511102}, [4]int{13, 9504, 462952264326, 4398046511101}},
		{[4]int{0, 88, 10973936, 195468733826}, [4]int{17, 11256, 390937467653, 4398046511102}, [4]int{16, 11254, 390937467653, 4398046511101}},
		{[4]int{0, 74, 9144947, 162890611522}, [4]int{20, 13507, 325781223044, 4398046511101}, [4]int{19, 13505, 325781223044, 4398046511099}},
		{[4]int{0, 62, 7716049, 137438953471}, [4]int{24, 16008, 274877906943, 4398046511096}, [4]int{22, 16006, 274877906943, 4398046511094}},
		{[4]int{0, 52, 6497725, 115738066081}, [4]int{29, 19010, 231476132162, 4398046511088}, [4]int{26, 19007, 231476132162, 4398046511085}},
		{[4]int{0, 43, 5426672, 96660362881}, [4]int{34, 22762, 193320725762, 4398046511097}, [4]int{31, 22759, 193320725762, 4398046511094}},
		{[4]int{0, 37, 4572473, 81445305761}, [4]int{41, 27014, 162890611521, 4398046511081}, [4]int{37, 27010, 162890611521, 4398046511077}},
		{[4]int{0, 31, 3858024, 68719476735}, [4]int{48, 32016, 137438953471, 4398046511088}, [4]int{44, 32012, 137438953471, 4398046511084}},
		{[4]int{0, 26, 3248862, 57869033040}, [4]int{57, 38019, 115738066081, 4398046511097}, [4]int{52, 38014, 115738066081, 4398046511092}},
		{[4]int{0, 22, 2728326, 48597199017}, [4]int{68, 45273, 97194398034, 4398046511061}, [4]int{62, 45267, 97194398035, 4398046511101}},
		{[4]int{0, 18, 2296870, 40912060568}, [4]int{81, 53777, 81824121136, 4398046511087}, [4]int{74, 53770, 81824121136, 4398046511080}},
		{[4]int{0, 15, 1929012, 34359738367}, [4]int{96, 64032, 68719476735, 4398046511072}, [4]int{88, 64024, 68719476735, 4398046511064}},
		{[4]int{0, 13, 1624431, 28934516520}, [4]int{114, 76038, 57869033040, 4398046511078}, [4]int{105, 76029, 57869033040, 4398046511069}},
		{[4]int{0, 11, 1364163, 24298599508}, [4]int{136, 90545, 48597199017, 4398046511084}, [4]int{125, 90534, 48597199017, 4398046511073}},
		{[4]int{0, 9, 1145770, 20408568496}, [4]int{162, 107804, 40817136993, 4398046511050}, [4]int{148, 107791, 40817136993, 4398046511036}},
		{[4]int{0, 7, 964506, 17179869183}, [4]int{192, 128064, 34359738367, 4398046511040}, [4]int{176, 128048, 34359738367, 4398046511024}},
		{[4]int{0, 6, 810882, 14443502499}, [4]int{229, 152326, 28887004998, 4398046511022}, [4]int{209, 152307, 28887004998, 4398046511003}},
		{[4]int{0, 5, 682081, 12149299754}, [4]int{272, 181091, 24298599508, 4398046511039}, [4]int{249, 181068, 24298599508, 4398046511016}},
		{[4]int{0, 4, 573550, 10216135914}, [4]int{323, 215358, 20432271828, 4398046511085}, [4]int{296, 215331, 20432271828, 4398046511058}},
		{[4]int{0, 3, 482253, 8589934591}, [4]int{384, 256128, 17179869183, 4398046510976}, [4]int{352, 256096, 17179869183, 4398046510944}},
		{[4]int{0, 3, 405441, 7221751249}, [4]int{457, 304652, 14443502499, 4398046511098}, [4]int{419, 304614, 14443502499, 4398046511060}},
		{[4]int{0, 2, 341040, 6074649877}, [4]int{543, 362181, 12149299753, 4398046510767}, [4]int{498, 362136, 12149299754, 4398046511084}},
		{[4]int{0, 2, 286775, 5108067957}, [4]int{646, 430715, 10216135913, 4398046510762}, [4]int{592, 430662, 10216135913, 4398046510708}},
		{[4]int{0, 1, 241126, 4294967295}, [4]int{768, 512256, 8589934591, 4398046510848}, [4]int{704, 512192, 8589934591, 4398046510784}},
		{[4]int{0, 1, 202803, 3612358530}, [4]int{913, 609055, 7224717060, 4398046510580}, [4]int{837, 608978, 7224717060, 4398046510503}},
		{[4]int{0, 1, 170520, 3037324938}, [4]int{1086, 724362, 6074649876, 4398046510586}, [4]int{996, 724272, 6074649876, 4398046510496}},
		{[4]int{0, 1, 143387, 2554033978}, [4]int{1292, 861431, 5108067956, 4398046510547}, [4]int{1184, 861323, 5108067956, 4398046510439}},
		{[4]int{0, 0, 120563, 2147483647}, [4]int{1536, 1024512, 4294967295, 4398046510592}, [4]int{1408, 1024384, 4294967295, 4398046510464}},
		{[4]int{0, 0, 101381, 1805808462}, [4]int{1827, 1218359, 3611616925, 4398046511028}, [4]int{1675, 1218207, 3611616925, 4398046510876}},
		{[4]int{0, 0, 85245, 1518400314}, [4]int{2173, 1448974, 3036800628, 4398046510225}, [4]int{1991, 1448793, 3036800628, 4398046510044}},
		{[4]int{0, 0, 71683, 1276831618}, [4]int{2584, 1723111, 2553663237, 4398046510785}, [4]int{2368, 1722896, 2553663237, 4398046510569}},
		{[4]int{0, 0, 60281, 1073741823}, [4]int{3072, 2049024, 2147483647, 4398046510080}, [4]int{2816, 2048768, 2147483647, 4398046509824}},
		{[4]int{0, 0, 50690, 902904231}, [4]int{3653, 2436718, 1805808462, 4398046510419}, [4]int{3349, 2436413, 1805808462, 4398046510114}},
		{[4]int{0, 0, 42626, 759265690}, [4]int{4345, 2897698, 1518531380, 4398046510773}, [4]int{3982, 2897336, 1518531380, 4398046510411}},
		{[4]int{0, 0, 35844, 638462148}, [4]int{5167, 3445972, 1276924296, 4398046508220}, [4]int{4736, 3445542, 1276924296, 4398046507790}},
		{[4]int{0, 0, 30140, 536870911}, [4]int{6144, 4098048, 1073741823, 4398046509056}, [4]int{5632, 4097536, 1073741823, 4398046508544}},
		{[4]int{0, 0, 25345, 451452115}, [4]int{7307, 4873436, 902904230, 4398046506766}, [4]int{6698, 4872827, 902904231, 4398046511028}},
		{[4]int{0, 0, 21313, 379632845}, [4]int{8689, 5795396, 759265689, 4398046506429}, [4]int{7965, 5794672, 759265689, 4398046505705}},
		{[4]int{0, 0, 17922, 319231074}, [4]int{10333, 6891944, 638462148, 4398046509942}, [4]int{9472, 6891083, 638462148, 4398046509081}},
		{[4]int{0, 0, 15070, 268435455}, [4]int{12288, 8196096, 536870911, 4398046507008}, [4]int{11264, 8195072, 536870911, 4398046505984}},
		{[4]int{0, 0, 12672, 225726057}, [4]int{14613, 9746871, 451452115, 4398046509201}, [4]int{13395, 9745653, 451452115, 4398046507983}},
		{[4]int{0, 0, 10656, 189812326}, [4]int{17378, 11591043, 379624652, 4398046505376}, [4]int{15930, 11589595, 379624652, 4398046503928}},
		{[4]int{0, 0, 8960, 159612640}, [4]int{20666, 13784139, 319225281, 4398046509546}, [4]int{18944, 13782417, 319225281, 4398046507824}},
		{[4]int{0, 0, 7535, 134217727}, [4]int{24576, 16392192, 268435455, 4398046502912}, [4]int{22528, 16390144, 268435455, 4398046500864}},
		{[4]int{0, 0, 6336, 112863028}, [4]int{29226, 19493742, 225726057, 4398046504330}, [4]int{26791, 19491307, 225726057, 4398046501895}},
		{[4]int{0, 0, 5328, 94906163}, [4]int{34756, 23182085, 189812325, 4398046487998}, [4]int{31860, 23179189, 189812326, 4398046508272}},
		{[4]int{0, 0, 4480, 79806320}, [4]int{41332, 27568277, 159612640, 4398046502657}, [4]int{37888, 27564833, 159612640, 4398046499213}},
		{[4]int{0, 0, 3767, 67108863}, [4]int{49152, 32784384, 134217727, 4398046494720}, [4]int{45056, 32780288, 134217727, 4398046490624}},
	}
}

// wrongQuantisers that there aren't.
func wrongQuantisers() []int {
	return []int{-1, -2, -3, -4, -5, -8, -60, -61, -64, -256, -1 << 32, -1<<32 + 4, -1 << 62, least, least + 1, least + 4,
		61, 62, 63, 64, 65, 68, 120, 124, 128, 255, 256, 260, 1 << 32, 1<<32 + 4, 1 << 62, greatest - 3, greatest - 1, greatest}
}

// source of numbers for the tests, the same in each run.
type source uint64

func (s *source) next() int {
	*s ^= *s << 13
	*s ^= *s >> 7
	*s ^= *s << 17
	return int(*s)
}

// beside numbers: each one, its counterpart on the other side of 0, and those up to 2 away.
func beside(numbers ...int) []int {
	var out []int
	for _, n := range numbers {
		for away := -2; away <= 2; away++ {
			out = append(out, n+away, -n-away)
		}
	}
	return out
}

// ends: numbers that count as the nearer end, and those about it.
func ends() []int {
	out := beside(0, 1<<15, 1<<31, 1<<32, 1<<40, mostCode, mostCode+1, 1<<41, 2*mostCode, mostValue, 4*mostCode, 1<<43, 1<<58, 1<<60, 1<<61, 1<<62, 1<<62+1<<40)
	return append(out, least, least+1, least+2, least+3, least+4, least+5, greatest-5, greatest-4, greatest-3, greatest-2, greatest-1, greatest)
}

// drawn numbers of all sizes, on both sides of 0.
func drawn() []int {
	s := source(0x510e527fade682d1)
	var out []int
	for down := range uint(63) {
		for range 6 {
			out = append(out, s.next()>>down)
		}
	}
	return out
}

// multiples of a factor divided by 4: the numbers at and beside which an answer of There changes.
func multiples(q int) []int {
	var out []int
	factor := lut.Factor(q)
	most := 4 * mostCode / factor
	times := []int{most / 3, most / 2, most - 2, most - 1, most, most + 1, most + 2}
	for n := range 41 {
		times = append(times, n)
	}
	for n := 64; n < most; n *= 2 {
		times = append(times, n-1, n, n+1)
	}
	for _, n := range times {
		out = append(out, beside(n*factor/4)...)
	}
	return out
}

// greatestBelow: the greatest number up to mostCode whose answer of Back is below mostValue, by halves.
func greatestBelow(q int, inter bool) int {
	low, high := 0, mostCode+1
	for high-low > 1 {
		mid := (low + high) / 2
		if wantedBack(mid, q, inter) < mostValue {
			low = mid
		} else {
			high = mid
		}
	}
	return low
}

// numbers for There and Back by a quantiser.
func numbers(q int) []int {
	out := slices.Concat(ends(), drawn(), multiples(q), beside(greatestBelow(q, false), greatestBelow(q, true)))
	for n := -300; n <= 300; n++ {
		out = append(out, n)
	}
	return out
}

// sized: a number without its sign, no greater than mostCode.
func sized(v int) *big.Int {
	n := new(big.Int).Abs(big.NewInt(int64(v)))
	if most := big.NewInt(mostCode); n.Cmp(most) > 0 {
		return most
	}
	return n
}

// signed: a number, with the sign of another one.
func signed(n *big.Int, of int) int {
	if of < 0 {
		n.Neg(n)
	}
	return int(n.Int64())
}

// wantedThere by the chapter's words, in numbers of any size: the sign comes last.
func wantedThere(v, q int) int {
	n := sized(v)
	n = new(big.Int).Mul(n, big.NewInt(4))
	return signed(n.Quo(n, big.NewInt(int64(lut.Factor(q)))), v)
}

// wantedBack by the chapter's words, in numbers of any size: the sign comes last.
func wantedBack(c, q int, inter bool) int {
	if c == 0 {
		return 0
	}
	n := new(big.Int).Mul(sized(c), big.NewInt(int64(lut.Factor(q))))
	n.Add(n, big.NewInt(int64(lut.Offset(q, inter))))
	n.Add(n, big.NewInt(2))
	n.Quo(n, big.NewInt(4))
	if most := big.NewInt(mostValue); n.Cmp(most) > 0 {
		n = most
	}
	return signed(n, c)
}

func wantThere(t *testing.T, v, q, want int) {
	t.Helper()
	if got := quant.There(v, q); got != want {
		t.Errorf("There(%d, %d): %d, not %d", v, q, got, want)
	}
}

func wantBack(t *testing.T, c, q int, inter bool, want int) {
	t.Helper()
	if got := quant.Back(c, q, inter); got != want {
		t.Errorf("Back(%d, %d, %v): %d, not %d", c, q, inter, got, want)
	}
}

// wantBothThere: of a number and of its counterpart.
func wantBothThere(t *testing.T, v, q, want int) {
	t.Helper()
	wantThere(t, v, q, want)
	wantThere(t, -v, q, -want)
}

// wantBothBack: of a number and of its counterpart.
func wantBothBack(t *testing.T, c, q int, inter bool, want int) {
	t.Helper()
	wantBack(t, c, q, inter, want)
	wantBack(t, -c, q, inter, -want)
}

func TestLimits(t *testing.T) {
	if api.MostCode != mostCode || api.MostValue != mostValue || api.MostQuant != 60 || len(allWorked()) != 61 {
		t.Errorf("%d, %d, %d, %d", api.MostCode, api.MostValue, api.MostQuant, len(allWorked()))
	}
}

// P11.1: numbers made coarse, and back.

func TestThereThatWasWorkedOut(t *testing.T) {
	for q, w := range allWorked() {
		wantThere(t, 0, q, 0)
		for i, v := range []int{1, 1000, 123456789, mostCode} {
			wantBothThere(t, v, q, w.there[i])
		}
		for _, v := range []int{mostCode + 1, mostCode + 2, mostValue, 1 << 60, 1 << 62, greatest} {
			wantBothThere(t, v, q, w.there[3])
		}
		wantThere(t, least, q, -w.there[3])
	}
}

func TestBackThatWasWorkedOut(t *testing.T) {
	for q, w := range allWorked() {
		for inter, back := range map[bool][4]int{false: w.back, true: w.other} {
			wantBack(t, 0, q, inter, 0)
			wantBothBack(t, 1, q, inter, back[0])
			wantBothBack(t, 1000, q, inter, back[1])
			wantBothBack(t, back[2], q, inter, back[3])
			most := mostValue
			if back[2] == mostCode { // no number of this quantiser comes so far
				most = back[3]
			}
			for _, c := range []int{back[2] + 1, mostCode, mostCode + 1, mostCode + 2, mostValue, 1 << 60, 1 << 62, greatest} {
				wantBothBack(t, c, q, inter, most)
			}
			wantBack(t, least, q, inter, -most)
		}
	}
}

// Quantisers up to 4 have no factor by which a number comes to mostValue, all others have.
func TestWhichQuantisersComeToMostValue(t *testing.T) {
	for q := range api.MostQuant + 1 {
		for _, inter := range []bool{false, true} {
			if got := quant.Back(mostCode, q, inter) == mostValue; got != (q > 4) {
				t.Errorf("Back(%d, %d, %v) is %d", mostCode, q, inter, quant.Back(mostCode, q, inter))
			}
		}
	}
}

// What is left over is dropped: at a multiple of a factor divided by 4 an answer changes, ahead of it not yet.
func TestThereAtMultiples(t *testing.T) {
	for q, changes := range map[int][]int{0: {1, 2, 3}, 1: {2, 3, 4, 5, 7}, 4: {2, 4, 6}, 5: {3, 5, 8, 10}, 7: {4, 7, 10, 13, 17}, 8: {4, 8, 12}, 9: {5, 10, 15, 19, 24}, 12: {8, 16, 24}, 60: {32768, 65536, 98304}} {
		for i, v := range changes {
			wantBothThere(t, v, q, i+1)
			wantBothThere(t, v-1, q, i)
		}
	}
}

func TestThereAtAllMultiples(t *testing.T) {
	for q := range api.MostQuant + 1 {
		factor := lut.Factor(q)
		for n := 1; n <= 4*mostCode/factor; n = n*3/2 + 1 {
			first := (n*factor + 3) / 4 // the least number of which n factors go into its fourfold
			wantBothThere(t, first, q, n)
			if before := quant.There(first-1, q); before >= n {
				t.Errorf("There(%d, %d): %d", first-1, q, before)
			}
		}
	}
}

func TestThereByTheChaptersWords(t *testing.T) {
	for q := range api.MostQuant + 1 {
		for _, v := range numbers(q) {
			wantThere(t, v, q, wantedThere(v, q))
		}
	}
}

func TestBackByTheChaptersWords(t *testing.T) {
	for q := range api.MostQuant + 1 {
		for _, c := range numbers(q) {
			wantBack(t, c, q, false, wantedBack(c, q, false))
			wantBack(t, c, q, true, wantedBack(c, q, true))
		}
	}
}

func TestOtherQuantisersTellNought(t *testing.T) {
	for _, q := range wrongQuantisers() {
		for _, v := range slices.Concat(ends(), drawn()) {
			wantThere(t, v, q, 0)
			wantBack(t, v, q, false, 0)
			wantBack(t, v, q, true, 0)
		}
	}
}

// Pictures by themselves and those that others are used for have other offsets.
func TestInterCounts(t *testing.T) {
	for _, x := range [][4]int{{1, 12, 12, 11}, {1, 13, 14, 13}, {3, 16, 56, 54}, {1, 60, 49152, 45056}, {1, 0, 1, 1}, {2, 8, 10, 10}} {
		wantBothBack(t, x[0], x[1], false, x[2])
		wantBothBack(t, x[0], x[1], true, x[3])
	}
}

func TestExamples(t *testing.T) {
	wantThere(t, 21, 4, 10)
	wantBack(t, 10, 4, false, 21)
}

// P11.2: the nearer end.

func TestClamp(t *testing.T) {
	for q := range 61 {
		if got := quant.Clamp(q); got != q {
			t.Errorf("Clamp(%d): %d", q, got)
		}
	}
	for _, q := range wrongQuantisers() {
		want := 60
		if q < 0 {
			want = 0
		}
		if got := quant.Clamp(q); got != want {
			t.Errorf("Clamp(%d): %d, not %d", q, got, want)
		}
	}
}

func TestClip(t *testing.T) {
	for v, want := range map[int]int{0: 0, 1: 1, -1: -1, mostCode: mostCode, -mostCode: -mostCode,
		mostValue - 1: mostValue - 1, mostValue: mostValue, mostValue + 1: mostValue, mostValue + 2: mostValue, 2 * mostValue: mostValue, 1 << 62: mostValue, greatest: mostValue,
		1 - mostValue: 1 - mostValue, -mostValue: -mostValue, -mostValue - 1: -mostValue, -mostValue - 2: -mostValue, -2 * mostValue: -mostValue, -1 << 62: -mostValue, least + 1: -mostValue, least: -mostValue} {
		if got := quant.Clip(v); got != want {
			t.Errorf("Clip(%d): %d, not %d", v, got, want)
		}
	}
}

func TestClipOfAnyNumbers(t *testing.T) {
	for _, v := range slices.Concat(ends(), drawn()) {
		got := quant.Clip(v)
		switch {
		case v > mostValue && got != mostValue, v < -mostValue && got != -mostValue:
			t.Errorf("Clip(%d): %d, which isn't the nearer end", v, got)
		case v >= -mostValue && v <= mostValue && got != v:
			t.Errorf("Clip(%d): %d", v, got)
		}
	}
}

// P11.3: near to what it was, on the same side, in the same order.

// coded: those of some numbers that are, without a sign, no greater than mostCode.
func coded(numbers []int) []int {
	return slices.DeleteFunc(numbers, func(v int) bool { return v > mostCode || v < -mostCode })
}

func TestTheQuantiserNoughtIsExact(t *testing.T) {
	all := coded(numbers(0))
	for v := range 5000 {
		all = append(all, v, -v, mostCode-v, v-mostCode)
	}
	for _, v := range all {
		c := quant.There(v, 0)
		for _, inter := range []bool{false, true} {
			if got := quant.Back(c, 0, inter); got != v {
				t.Errorf("%d: There is %d, Back (%v) %d", v, c, inter, got)
			}
		}
	}
}

// Beyond it, it tells mostCode of a number's side.
func TestTheQuantiserNoughtBeyondMostCode(t *testing.T) {
	for _, v := range []int{mostCode + 1, mostCode + 2, mostValue, 1 << 62, greatest} {
		wantBothThere(t, v, 0, mostCode)
		wantBothBack(t, v, 0, false, mostCode)
		wantBothBack(t, v, 0, true, mostCode)
	}
	wantThere(t, least, 0, -mostCode)
	wantBack(t, least, 0, false, -mostCode)
	wantBack(t, least, 0, true, -mostCode)
}

func TestBackIsNear(t *testing.T) {
	for q := range api.MostQuant + 1 {
		for _, v := range coded(numbers(q)) {
			for _, inter := range []bool{false, true} {
				got := quant.Back(quant.There(v, q), q, inter)
				if off := max(got-v, v-got); 4*off > lut.Factor(q)+4 {
					t.Errorf("%d by %d (%v): %d, which is %d off", v, q, inter, got, off)
				}
			}
		}
	}
}

func TestSignsDoNotTurn(t *testing.T) {
	turned := func(a, b int) bool { return a < 0 && b > 0 || a > 0 && b < 0 }
	for q := range api.MostQuant + 1 {
		for _, v := range numbers(q) {
			c := quant.There(v, q)
			if turned(v, c) || v == 0 && c != 0 {
				t.Errorf("There(%d, %d): %d", v, q, c)
			}
			for _, inter := range []bool{false, true} {
				if got := quant.Back(c, q, inter); turned(v, got) || (c == 0) != (got == 0) {
					t.Errorf("%d by %d (%v): %d, and back %d", v, q, inter, c, got)
				}
				if got := quant.Back(v, q, inter); turned(v, got) || (v == 0) != (got == 0) {
					t.Errorf("Back(%d, %d, %v): %d", v, q, inter, got)
				}
			}
		}
	}
}

// wantOrder: of rising numbers none goes to a lesser one than the one ahead of it.
func wantOrder(t *testing.T, what string, q int, rising []int, goes func(int) int) {
	t.Helper()
	for i := range len(rising) - 1 {
		if a, b := goes(rising[i]), goes(rising[i+1]); a > b {
			t.Errorf("%s by %d: %d goes to %d, %d to %d", what, q, rising[i], a, rising[i+1], b)
		}
	}
}

func TestLesserNumbersDoNotComeToGreaterOnes(t *testing.T) {
	for q := range api.MostQuant + 1 {
		rising := numbers(q)
		slices.Sort(rising)
		wantOrder(t, "There", q, rising, func(v int) int { return quant.There(v, q) })
		for _, inter := range []bool{false, true} {
			wantOrder(t, "Back", q, rising, func(c int) int { return quant.Back(c, q, inter) })
			wantOrder(t, "There and Back", q, rising, func(v int) int { return quant.Back(quant.There(v, q), q, inter) })
		}
	}
}

// wantWithin: no answer goes beyond its bound.
func wantWithin(t *testing.T, v, q int) {
	t.Helper()
	if c := quant.There(v, q); c > mostCode || c < -mostCode {
		t.Errorf("There(%d, %d): %d", v, q, c)
	}
	for _, inter := range []bool{false, true} {
		if b := quant.Back(v, q, inter); b > mostValue || b < -mostValue {
			t.Errorf("Back(%d, %d, %v): %d", v, q, inter, b)
		}
	}
}

func TestNoAnswerGoesBeyondItsBound(t *testing.T) {
	for q := range api.MostQuant + 1 {
		for _, v := range numbers(q) {
			wantWithin(t, v, q)
		}
	}
}

func FuzzAnyNumbers(f *testing.F) {
	f.Add(21, 4, false)
	f.Add(mostCode+1, 60, true)
	f.Add(least, 0, true)
	f.Add(greatest, 61, false)
	f.Add(1, -1, false)
	f.Fuzz(func(t *testing.T, v, q int, inter bool) {
		if q < 0 || q > 60 {
			wantThere(t, v, q, 0)
			wantBack(t, v, q, inter, 0)
			q = quant.Clamp(q)
		}
		wantThere(t, v, q, wantedThere(v, q))
		wantBack(t, v, q, inter, wantedBack(v, q, inter))
		wantWithin(t, v, q)
	})
}
