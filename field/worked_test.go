package field_test

import (
	"testing"

	"shingle/api"
	"shingle/field"
)

// What stands in this file was worked out ahead of the program, after the words of chapter 16.

// told: a unit with its square's number.
type told struct {
	square int
	u      api.Unit
}

// placed unit of a square.
func placed(square, x, y, size int) told {
	return told{square, api.Unit{X: x, Y: y, Size: size}}
}

// mixed field, 3 squares across and 2 down, of all Splits, and its units.
func mixed() (api.Field, []told) {
	f := field.New(3, 2)
	copy(f.Split, []int{0, 1, 2, 2, 0, 1})
	return f, []told{
		placed(0, 0, 0, 4),
		placed(1, 4, 0, 2), placed(1, 6, 0, 2), placed(1, 4, 2, 2), placed(1, 6, 2, 2),
		placed(2, 8, 0, 1), placed(2, 9, 0, 1), placed(2, 10, 0, 1), placed(2, 11, 0, 1),
		placed(2, 8, 1, 1), placed(2, 9, 1, 1), placed(2, 10, 1, 1), placed(2, 11, 1, 1),
		placed(2, 8, 2, 1), placed(2, 9, 2, 1), placed(2, 10, 2, 1), placed(2, 11, 2, 1),
		placed(2, 8, 3, 1), placed(2, 9, 3, 1), placed(2, 10, 3, 1), placed(2, 11, 3, 1),
		placed(3, 0, 4, 1), placed(3, 1, 4, 1), placed(3, 2, 4, 1), placed(3, 3, 4, 1),
		placed(3, 0, 5, 1), placed(3, 1, 5, 1), placed(3, 2, 5, 1), placed(3, 3, 5, 1),
		placed(3, 0, 6, 1), placed(3, 1, 6, 1), placed(3, 2, 6, 1), placed(3, 3, 6, 1),
		placed(3, 0, 7, 1), placed(3, 1, 7, 1), placed(3, 2, 7, 1), placed(3, 3, 7, 1),
		placed(4, 4, 4, 4),
		placed(5, 8, 4, 2), placed(5, 10, 4, 2), placed(5, 8, 6, 2), placed(5, 10, 6, 2),
	}
}

// byRule: a field whose squares and blocks follow a rule.
func byRule(across, down, plus int) api.Field {
	f := field.New(across, down)
	for i := range f.Split {
		f.Split[i] = (i*i + i/3 + plus) % 3
	}
	for i := range f.Blocks {
		k := (i*i*7 + i*13 + plus) % 1009
		f.Blocks[i] = api.Block{Mode: k % 4, Global: k%5 < 2, V: [2]api.Vec{{X: k - 500, Y: i%7 - 3}, {X: mostVec - i%3, Y: k - mostVec}}, DC: [3]int{3 * k, -k, mostVec - k*i%97}}
	}
	return f
}

// folded numbers: one that hangs on each of them and on their order.
func folded(numbers []int) int {
	sum := 0
	for _, n := range numbers {
		sum = (31*sum + n) & (1<<61 - 1)
	}
	return sum
}

// unitNumbers of all units.
func unitNumbers(f api.Field) []int {
	var out []int
	for i, u := range field.Units(f) {
		out = append(out, i, u.X, u.Y, u.Size)
	}
	return out
}

// blockNumbers of all blocks.
func blockNumbers(f api.Field) []int {
	var out []int
	for _, b := range f.Blocks {
		global := 0
		if b.Global {
			global = 1
		}
		out = append(out, b.Mode, global, b.V[0].X, b.V[0].Y, b.V[1].X, b.V[1].Y, b.DC[0], b.DC[1], b.DC[2])
	}
	return out
}

// P16.1 and P16.2: units and blocks by the rule, reckoned by a separate script.
func TestFieldsByTheRule(t *testing.T) {
	for _, c := range []struct{ across, down, plus, units, unitsFolded, blocksFolded int }{
		{1, 1, 0, 1, 4, 920338137786351616},
		{1, 1, 1, 4, 1576966529992243336, 552531917628043008},
		{1, 1, 2, 16, 827436540328649488, 1853369781245104728},
		{3, 2, 0, 45, 349369251832087156, 547817900665248235},
		{2, 5, 1, 67, 347989914454024325, 1509573279910216138},
		{7, 4, 2, 205, 1995784443329668909, 23901035356868392},
		{64, 1, 0, 442, 1735874769378619929, 710969628314046704},
		{1, 64, 1, 445, 1015147480390343672, 425782021045564735},
		{64, 64, 2, 28681, 297333323156888523, 1195216817991996726},
	} {
		f := byRule(c.across, c.down, c.plus)
		if !field.Right(f) || field.Even(f) {
			t.Errorf("%v: right %t, even %t", c, field.Right(f), field.Even(f))
		}
		if got := unitNumbers(f); len(got) != 4*c.units || folded(got) != c.unitsFolded {
			t.Errorf("%v: %d units, folded %d", c, len(got)/4, folded(got))
		}
		if got := blockNumbers(field.Level(f)); folded(got) != c.blocksFolded {
			t.Errorf("%v: blocks folded %d", c, folded(got))
		}
	}
}

// P16.2: what doesn't count of a block, by each Mode, Global or not.
func TestPlainThatWasWorkedOut(t *testing.T) {
	first, second, none := api.Vec{X: 1, Y: -2}, api.Vec{X: -3, Y: 4}, api.Vec{}
	dc := [3]int{5, -6, 7}
	for _, c := range []struct {
		mode   int
		global bool
		want   api.Block
	}{
		{0, false, api.Block{DC: dc}},
		{1, false, api.Block{Mode: 1, V: [2]api.Vec{first, none}}},
		{2, false, api.Block{Mode: 2, V: [2]api.Vec{none, second}}},
		{3, false, api.Block{Mode: 3, V: [2]api.Vec{first, second}}},
		{0, true, api.Block{DC: dc}},
		{1, true, api.Block{Mode: 1, Global: true}},
		{2, true, api.Block{Mode: 2, Global: true}},
		{3, true, api.Block{Mode: 3, Global: true}},
		// Modes that no right block has: what doesn't count of them is told by their bits, too.
		{4, false, api.Block{Mode: 4}},
		{5, false, api.Block{Mode: 5, V: [2]api.Vec{first, none}}},
		{6, true, api.Block{Mode: 6, Global: true}},
		{1<<32 + 2, false, api.Block{Mode: 1<<32 + 2, V: [2]api.Vec{none, second}}},
		{-1, false, api.Block{Mode: -1, V: [2]api.Vec{first, second}}},
		{-2, false, api.Block{Mode: -2, V: [2]api.Vec{none, second}}},
		{greatest, false, api.Block{Mode: greatest, V: [2]api.Vec{first, second}}},
		{least, false, api.Block{Mode: least}},
		{least + 1, true, api.Block{Mode: least + 1, Global: true}},
	} {
		b := api.Block{Mode: c.mode, Global: c.global, V: [2]api.Vec{first, second}, DC: dc}
		if got := field.Plain(b); got != c.want {
			t.Errorf("%v is %v, not %v", b, got, c.want)
		}
		if got := field.Plain(c.want); got != c.want {
			t.Errorf("%v is plain, not %v", c.want, got)
		}
	}
	wild := api.Block{Mode: 3, V: [2]api.Vec{{X: greatest, Y: least}, {X: least, Y: greatest}}}
	if got := field.Plain(wild); got != wild {
		t.Errorf("%v is %v", wild, got)
	}
	if got, want := field.Plain(api.Block{Global: true, DC: [3]int{least, greatest, 1 << 25}}), (api.Block{DC: [3]int{least, greatest, 1 << 25}}); got != want {
		t.Errorf("%v", got)
	}
}

// P16.2: the answers at and about the bounds.
func TestSquaresThatWereWorkedOut(t *testing.T) {
	for _, c := range []struct{ w, h, sep, across, down int }{
		{64, 65, 4, 4, 5}, {1, 1, 1, 1, 1}, {3, 4, 1, 1, 1}, {4, 5, 1, 1, 2}, {8, 9, 1, 2, 3}, {7, 8, 2, 1, 1}, {9, 16, 2, 2, 2}, {17, 1, 2, 3, 1},
		{11, 12, 3, 1, 1}, {13, 25, 3, 2, 3}, {1024, 1023, 1, 256, 256}, {1021, 1020, 1, 256, 255}, {1024, 1, 256, 1, 1}, {1023, 1024, 256, 1, 1},
		{1024, 1024, 255, 2, 2}, {1020, 1021, 255, 1, 2}, {1016, 1017, 127, 2, 3}, {1024, 512, 128, 2, 1}, {128, 127, 5, 7, 7}, {128, 120, 6, 6, 5}, {1000, 999, 7, 36, 36},
		{1, 1024, 4, 1, 64}, {1024, 1, 4, 64, 1}, {1024, 1024, 3, 86, 86},
	} {
		if across, down := field.Squares(c.w, c.h, c.sep); across != c.across || down != c.down {
			t.Errorf("%v: %d, %d", c, across, down)
		}
	}
}
