package field_test

import (
	"math"
	"slices"
	"testing"

	"shingle/api"
	"shingle/field"
)

const (
	least    = math.MinInt
	greatest = math.MaxInt
	most     = 64      // squares, across or down
	mostVec  = 1 << 24 // of the numbers of a block
	mostSide = 1024    // of a plane's sides
	mostSep  = 256
)

// source of numbers for the tests, the same in each run.
type source uint64

func (s *source) next() int {
	*s ^= *s << 13
	*s ^= *s >> 7
	*s ^= *s << 17
	return int(*s)
}

// below a count, not below 0.
func (s *source) below(count int) int {
	return s.next() >> 8 & 0xffffffff % count
}

// one of a list.
func (s *source) one(list ...int) int {
	return list[s.below(len(list))]
}

// yes, half the times.
func (s *source) yes() bool {
	return s.below(2) == 1
}

func seeded(seed int) *source {
	s := source(0x6a09e667f3bcc909 + uint64(seed)*0x9e3779b97f4a7c15)
	return &s
}

// number of a block that is right: mostly a small one.
func (s *source) number() int {
	return s.one(0, 0, 1, -1, 2, 17, -300, mostVec, -mostVec, mostVec-1, s.below(2*mostVec+1)-mostVec)
}

// block that is right; what doesn't count of it may be anything that fits.
func (s *source) block() api.Block {
	b := api.Block{Mode: s.below(4), Global: s.yes(), DC: [3]int{s.number(), s.number(), s.number()}}
	for ref := range b.V {
		b.V[ref] = api.Vec{X: s.number(), Y: s.number()}
	}
	return b
}

// field that is right, of any Splits and blocks.
func (s *source) field(across, down int) api.Field {
	f := field.New(across, down)
	for i := range f.Split {
		f.Split[i] = s.below(3)
	}
	for i := range f.Blocks {
		f.Blocks[i] = s.block()
	}
	return f
}

// split: a field that is all of one Split, with zero blocks.
func split(across, down, number int) api.Field {
	f := field.New(across, down)
	for i := range f.Split {
		f.Split[i] = number
	}
	return f
}

// copied field, without spare room.
func copied(f api.Field) api.Field {
	f.Split, f.Blocks = slices.Clip(slices.Clone(f.Split)), slices.Clip(slices.Clone(f.Blocks))
	return f
}

// roomy: a field with spare room that tells whether it was written to.
func roomy(f api.Field) api.Field {
	splits := append(slices.Clone(f.Split), 2, 1, 0, 2, 1, 0)
	blocks := slices.Clone(f.Blocks)
	for range 24 {
		blocks = append(blocks, api.Block{Mode: 3, Global: true, DC: [3]int{7, 8, 9}})
	}
	f.Split, f.Blocks = splits[:len(f.Split)], blocks[:len(f.Blocks)]
	return f
}

// whole field: its spare room, too.
func whole(f api.Field) api.Field {
	f.Split, f.Blocks = f.Split[:cap(f.Split)], f.Blocks[:cap(f.Blocks)]
	return f
}

func same(f, g api.Field) bool {
	return f.Across == g.Across && f.Down == g.Down && slices.Equal(f.Split, g.Split) && slices.Equal(f.Blocks, g.Blocks)
}

// The chapter's words, as they stand: each block by itself, and whose unit's first one it is told by.

// rightByWords: is a field right?
func rightByWords(f api.Field) bool {
	if f.Across < 1 || f.Across > most || f.Down < 1 || f.Down > most || len(f.Split) != f.Across*f.Down || len(f.Blocks) != 16*len(f.Split) {
		return false
	}
	for _, n := range f.Split {
		if n != 0 && n != 1 && n != 2 {
			return false
		}
	}
	for _, b := range f.Blocks {
		if !slices.Contains([]int{0, 1, 2, 3}, b.Mode) {
			return false
		}
		for _, n := range []int{b.V[0].X, b.V[0].Y, b.V[1].X, b.V[1].Y, b.DC[0], b.DC[1], b.DC[2]} {
			if n < -mostVec || n > mostVec {
				return false
			}
		}
	}
	return true
}

// unitsByWords of a right field.
func unitsByWords(f api.Field) []told {
	var out []told
	for i, n := range f.Split {
		x, y := 4*(i%f.Across), 4*(i/f.Across)
		switch n {
		case 0:
			out = append(out, placed(i, x, y, 4))
		case 1:
			out = append(out, placed(i, x, y, 2), placed(i, x+2, y, 2), placed(i, x, y+2, 2), placed(i, x+2, y+2, 2))
		case 2:
			for k := range 16 {
				out = append(out, placed(i, x+k%4, y+k/4, 1))
			}
		}
	}
	return out
}

// plainByWords: a block, and what doesn't count is nought.
func plainByWords(b api.Block) api.Block {
	if b.Mode == 0 {
		b.Global = false
	}
	if b.Mode&1 == 0 || b.Global {
		b.V[0] = api.Vec{}
	}
	if b.Mode&2 == 0 || b.Global {
		b.V[1] = api.Vec{}
	}
	if b.Mode != 0 {
		b.DC = [3]int{}
	}
	return b
}

// firstOf: the number of the first block of the unit that has the block.
func firstOf(f api.Field, i int) int {
	x, y := i%(4*f.Across), i/(4*f.Across)
	size := []int{4, 2, 1}[f.Split[y/4*f.Across+x/4]]
	return y/size*size*4*f.Across + x/size*size
}

// levelByWords of a right field.
func levelByWords(f api.Field) api.Field {
	g := copied(f)
	for i := range g.Blocks {
		g.Blocks[i] = plainByWords(f.Blocks[firstOf(f, i)])
	}
	return g
}

// evenByWords: is a field even?
func evenByWords(f api.Field) bool {
	if !rightByWords(f) {
		return false
	}
	for i, b := range f.Blocks {
		if b != f.Blocks[firstOf(f, i)] || b != plainByWords(b) {
			return false
		}
	}
	return true
}

// Numbers, blocks and fields that are wrong.

// wrongSides that no field has.
func wrongSides() []int {
	return []int{0, -1, -2, -63, -64, -65, -1 << 32, 1 - 1<<32, -1 << 62, least, least + 1, least + 64,
		65, 66, 128, 1024, 65536, 1 << 31, 1 << 32, 1<<32 + 1, 1<<32 + 64, 1 << 58, 1 << 60, 1 << 62, 1<<62 + 1, greatest - 64, greatest - 1, greatest}
}

// wrongSplits of a square.
func wrongSplits() []int {
	return []int{-1, 3, 4, -2, 64, -1 << 32, 1 << 32, 1<<32 + 1, least, least + 1, greatest}
}

// wrongModes of a block.
func wrongModes() []int {
	return []int{-1, 4, 5, 7, -3, -4, 1 << 31, 1 << 32, 1<<32 + 3, 1 << 62, least, least + 1, least + 3, greatest}
}

// wrongParts of a vector, or of what a block is of itself.
func wrongParts() []int {
	return []int{mostVec + 1, -mostVec - 1, mostVec + 2, 2 * mostVec, 1 << 25, -1 << 25, 1 << 31, 1 << 32, 1<<32 + 1, -1 << 32, 1<<32 - 1, 1 << 62, -1 << 62, 1<<63 - mostVec, greatest - mostVec, least, least + mostVec, least + 2*mostVec, greatest}
}

// eachPart of a block: a place for each of its seven numbers.
func eachPart(b *api.Block) []*int {
	return []*int{&b.V[0].X, &b.V[0].Y, &b.V[1].X, &b.V[1].Y, &b.DC[0], &b.DC[1], &b.DC[2]}
}

// wrongBlocks: by one number each, of each Mode, Global or not.
func wrongBlocks() []api.Block {
	var out []api.Block
	for mode := range 4 {
		for _, global := range []bool{false, true} {
			for k := range 7 {
				for _, n := range wrongParts() {
					b := api.Block{Mode: mode, Global: global}
					*eachPart(&b)[k] = n
					out = append(out, b)
				}
			}
		}
	}
	for _, mode := range wrongModes() {
		out = append(out, api.Block{Mode: mode}, api.Block{Mode: mode, Global: true, DC: [3]int{1, 2, 3}})
	}
	return out
}

// wrongFields: those that aren't right, each by one thing alone where that is possible.
func wrongFields() []api.Field {
	var out []api.Field
	add := func(change func(f *api.Field)) {
		f := seeded(len(out)).field(3, 2)
		change(&f)
		out = append(out, f)
	}
	out = append(out, api.Field{}, api.Field{Across: 1, Down: 1}, api.Field{Across: 1, Down: 1, Split: []int{0}}, api.Field{Across: 1, Down: 1, Blocks: make([]api.Block, 16)})
	for _, n := range wrongSides() {
		add(func(f *api.Field) { f.Across = n })
		add(func(f *api.Field) { f.Down = n })
		add(func(f *api.Field) { f.Across, f.Down = n, n })
		out = append(out, api.Field{Across: n, Down: n}, api.Field{Across: n, Down: 1}, api.Field{Across: 1, Down: n})
	}
	// Counts that the sides tell, or would but for what doesn't fit into 64 bits: the sides are wrong alone.
	for _, s := range [][3]int{{65, 1, 65}, {1, 65, 65}, {-1, -1, 1}, {-2, -3, 6}, {66, 2, 132}, {0, 5, 0}, {1<<32 + 1, 1, 1}, {1 << 32, 1 << 32, 0}, {1<<62 + 1, 4, 4}, {1<<63 - 1, 1<<63 - 1, 1}, {1 << 60, 1, 0}, {1<<60 + 1, 1, 1}} {
		out = append(out, api.Field{Across: s[0], Down: s[1], Split: make([]int, s[2]), Blocks: make([]api.Block, 16*s[2])})
	}
	add(func(f *api.Field) { f.Split = f.Split[:5] })
	add(func(f *api.Field) { f.Split = append(f.Split, 0) })
	add(func(f *api.Field) { f.Split = nil })
	add(func(f *api.Field) { f.Blocks = f.Blocks[:95] })
	add(func(f *api.Field) { f.Blocks = append(f.Blocks, api.Block{}) })
	add(func(f *api.Field) { f.Blocks = f.Blocks[:80] })
	add(func(f *api.Field) { f.Blocks = append(f.Blocks, make([]api.Block, 16)...) })
	add(func(f *api.Field) { f.Blocks = nil })
	add(func(f *api.Field) { f.Across++ })
	add(func(f *api.Field) { f.Across-- })
	add(func(f *api.Field) { f.Down++ })
	add(func(f *api.Field) { f.Down-- })
	for _, i := range []int{0, 3, 5} {
		for _, n := range wrongSplits() {
			add(func(f *api.Field) { f.Split[i] = n })
		}
	}
	for _, i := range []int{0, 1, 47, 94, 95} {
		for _, b := range wrongBlocks() {
			add(func(f *api.Field) { f.Blocks[i] = b })
		}
	}
	return out
}

// fewFields that are right: of each Split, of several squares across and down, of the greatest sides.
func fewFields() []api.Field {
	var out []api.Field
	for n := range 3 {
		out = append(out, split(1, 1, n), split(2, 3, n))
	}
	f, _ := mixed()
	out = append(out, f)
	for i, s := range [][2]int{{1, 1}, {1, 1}, {1, 1}, {2, 1}, {1, 2}, {3, 2}, {2, 3}, {5, 4}, {1, 64}, {64, 1}, {7, 9}, {64, 64}} {
		out = append(out, seeded(i).field(s[0], s[1]), field.Level(seeded(i).field(s[0], s[1])))
	}
	return out
}

func wantRight(t *testing.T, f api.Field, want bool) {
	t.Helper()
	if got := field.Right(f); got != want {
		t.Fatalf("%d by %d, %d Splits, %d blocks: Right is %t", f.Across, f.Down, len(f.Split), len(f.Blocks), got)
	}
}

func wantEven(t *testing.T, f api.Field, want bool) {
	t.Helper()
	if got := field.Even(f); got != want {
		t.Fatalf("%d by %d, Splits %v ..: Even is %t", f.Across, f.Down, f.Split[:min(len(f.Split), 8)], got)
	}
}

// wantUnits of a field, by both calls.
func wantUnits(t *testing.T, f api.Field, want []told) {
	t.Helper()
	var got []told
	for i, u := range field.Units(f) {
		got = append(got, told{i, u})
	}
	if !slices.Equal(got, want) {
		t.Fatalf("%d by %d: Units tells %d, not %d, or others: %v ..", f.Across, f.Down, len(got), len(want), got[:min(len(got), 8)])
	}
	var units []api.Unit
	for _, w := range want {
		units = append(units, w.u)
	}
	if l := field.List(f); !slices.Equal(l, units) {
		t.Fatalf("%d by %d: List is of %d, not %d, or others: %v ..", f.Across, f.Down, len(l), len(units), l[:min(len(l), 8)])
	}
}

func wantAt(t *testing.T, f api.Field, x, y int, want api.Block, ok bool) {
	t.Helper()
	if b, got := field.At(f, x, y); b != want || got != ok {
		t.Fatalf("%d by %d: At %d, %d is %v, %t, not %v, %t", f.Across, f.Down, x, y, b, got, want, ok)
	}
}

// wantZero field.
func wantZero(t *testing.T, f api.Field) {
	t.Helper()
	if f.Across != 0 || f.Down != 0 || len(f.Split) != 0 || len(f.Blocks) != 0 {
		t.Fatalf("%d by %d, %d Splits, %d blocks: not the zero one", f.Across, f.Down, len(f.Split), len(f.Blocks))
	}
}

func TestLimits(t *testing.T) {
	if api.MostSquares != most || api.MostVec != mostVec || api.MostPlane != mostSide {
		t.Errorf("%d, %d, %d", api.MostSquares, api.MostVec, api.MostPlane)
	}
}

// P16.1: New.

func TestNew(t *testing.T) {
	for across := 1; across <= most; across++ {
		for down := 1; down <= most; down++ {
			if across > 2 && across < 63 && down > 2 && down < 63 && (across+down)%7 != 0 {
				continue
			}
			f := field.New(across, down)
			if f.Across != across || f.Down != down || len(f.Split) != across*down || len(f.Blocks) != 16*across*down {
				t.Fatalf("%d, %d: %d by %d, %d Splits, %d blocks", across, down, f.Across, f.Down, len(f.Split), len(f.Blocks))
			}
			if slices.IndexFunc(f.Split, func(n int) bool { return n != 0 }) >= 0 || slices.IndexFunc(f.Blocks, func(b api.Block) bool { return b != api.Block{} }) >= 0 {
				t.Fatalf("%d, %d: not all is nought", across, down)
			}
		}
	}
}

func TestNewOfWrongSides(t *testing.T) {
	for _, n := range wrongSides() {
		for _, other := range []int{1, 2, 64} {
			wantZero(t, field.New(n, other))
			wantZero(t, field.New(other, n))
		}
		for _, other := range wrongSides() {
			wantZero(t, field.New(n, other))
		}
	}
}

func TestNewIsNewMemory(t *testing.T) {
	f, g := field.New(2, 3), field.New(2, 3)
	w := whole(f)
	for i := range w.Split {
		w.Split[i] = 2
	}
	for i := range w.Blocks {
		w.Blocks[i].Mode = 3
	}
	if !same(g, split(2, 3, 0)) || !same(field.New(2, 3), split(2, 3, 0)) {
		t.Errorf("another answer")
	}
}

// P16.1: Right.

func TestRight(t *testing.T) {
	for _, f := range fewFields() {
		wantRight(t, f, true)
	}
	for _, s := range [][2]int{{1, 1}, {64, 1}, {1, 64}, {64, 64}, {63, 2}} {
		wantRight(t, field.New(s[0], s[1]), true)
		wantRight(t, roomy(field.New(s[0], s[1])), true)
	}
	f := field.New(3, 2)
	f.Across, f.Down = 2, 3
	wantRight(t, f, true)
}

func TestRightOfEachSplit(t *testing.T) {
	for i := range 6 {
		for n := range 3 {
			f := seeded(i).field(3, 2)
			f.Split[i] = n
			wantRight(t, f, true)
		}
	}
}

// At the bounds of each number, at each place, whatever counts of the block.
func TestRightOfEachBlock(t *testing.T) {
	for i := range 96 {
		for mode := range 4 {
			for k := range 7 {
				for _, n := range []int{mostVec, -mostVec, mostVec - 1, 1 - mostVec} {
					f := field.New(3, 2)
					f.Blocks[i].Mode, f.Blocks[i].Global = mode, i%2 == 0
					*eachPart(&f.Blocks[i])[k] = n
					wantRight(t, f, true)
				}
			}
		}
	}
}

func TestNotRight(t *testing.T) {
	for _, f := range wrongFields() {
		wantRight(t, f, false)
	}
}

// A wrong number makes a field wrong at each place.
func TestNotRightAtEachPlace(t *testing.T) {
	for i := range 96 {
		for k := range 7 {
			for _, n := range []int{mostVec + 1, -mostVec - 1} {
				f := field.New(2, 3)
				*eachPart(&f.Blocks[i])[k] = n
				wantRight(t, f, false)
			}
		}
		f := field.New(2, 3)
		f.Blocks[i].Mode = 4
		wantRight(t, f, false)
		f = field.New(2, 3)
		f.Split[i%6] = 3
		wantRight(t, f, false)
	}
}

// A wrong thing in the spare room doesn't count.
func TestRightBesideWrongSpareRoom(t *testing.T) {
	f := roomy(seeded(3).field(2, 2))
	w := whole(f)
	w.Split[4], w.Blocks[64].Mode = 3, 4
	wantRight(t, f, true)
	wantUnits(t, f, unitsByWords(f))
	if !same(field.Level(f), levelByWords(f)) {
		t.Errorf("another level")
	}
}

// P16.1: Even.

// evenBlocks, of each Mode.
func evenBlocks() []api.Block {
	return []api.Block{{}, {DC: [3]int{1, -2, mostVec}}, {Mode: 1, V: [2]api.Vec{{X: 3, Y: -mostVec}, {}}}, {Mode: 1, Global: true},
		{Mode: 2, V: [2]api.Vec{{}, {X: -5, Y: 6}}}, {Mode: 2, Global: true}, {Mode: 3, V: [2]api.Vec{{X: 1, Y: 2}, {X: 3, Y: 4}}}, {Mode: 3, Global: true}}
}

// others than an even block: even ones, too, that differ from it by one thing alone, where one thing can.
func others(b api.Block) []api.Block {
	var out []api.Block
	for k := range 7 {
		for _, n := range []int{1, -1, 1 << 20} {
			c := b
			*eachPart(&c)[k] ^= n
			out = append(out, c)
		}
	}
	for mode := range 4 {
		c := b
		c.Mode = mode
		out = append(out, c)
	}
	c := b
	c.Global = !c.Global
	out = append(out, c)
	return slices.DeleteFunc(out, func(c api.Block) bool { return c == b || c != plainByWords(c) || !rightByWords(filled(1, 1, 0, c)) })
}

// filled field: all blocks are such ones.
func filled(across, down, number int, b api.Block) api.Field {
	f := split(across, down, number)
	for i := range f.Blocks {
		f.Blocks[i] = b
	}
	return f
}

func TestEvenOfEachSplit(t *testing.T) {
	for n := range 3 {
		for _, b := range evenBlocks() {
			wantEven(t, filled(1, 1, n, b), true)
			wantEven(t, filled(3, 2, n, b), true)
		}
	}
	wantEven(t, field.New(64, 64), true)
	for _, f := range fewFields() {
		wantEven(t, f, evenByWords(f))
		wantEven(t, levelByWords(f), true)
	}
}

// One even block among others: units of one block are even all the same, others aren't, at each of their places.
func TestEvenWithAnotherBlock(t *testing.T) {
	for n := range 3 {
		for _, b := range evenBlocks() {
			for _, c := range others(b) {
				for i := range 96 {
					f := filled(3, 2, n, b)
					f.Blocks[i] = c
					wantEven(t, f, n == 2)
				}
			}
		}
	}
}

// Units that are another one each, beside one another.
func TestEvenUnitByUnit(t *testing.T) {
	f, units := mixed()
	for k, u := range units {
		b := evenBlocks()[k%8]
		for i := range u.u.Size * u.u.Size {
			f.Blocks[(u.u.Y+i/u.u.Size)*12+u.u.X+i%u.u.Size] = b
		}
	}
	wantEven(t, f, true)
	for i := range f.Blocks {
		g := copied(f)
		g.Blocks[i] = api.Block{DC: [3]int{4, 4, 4}}
		wantEven(t, g, f.Split[i/48*3+i%12/4] == 2)
	}
	for i := range f.Split {
		g := copied(f)
		for n := range 3 {
			g.Split[i] = n
			wantEven(t, g, n >= f.Split[i])
		}
	}
}

// What doesn't count isn't nought, in all blocks of each unit alike.
func TestNotEvenByWhatDoesNotCount(t *testing.T) {
	vec := func(k, n int) [2]api.Vec {
		var b api.Block
		*eachPart(&b)[k] = n
		return b.V
	}
	var blocks []api.Block
	blocks = append(blocks, api.Block{Global: true}, api.Block{Global: true, DC: [3]int{1, 2, 3}})
	for _, n := range []int{1, -1, mostVec, -mostVec} {
		for k := range 4 {
			blocks = append(blocks, api.Block{V: vec(k, n)})
			for mode := 1; mode < 4; mode++ {
				blocks = append(blocks, api.Block{Mode: mode, Global: true, V: vec(k, n)})
			}
		}
		for k := range 2 {
			blocks = append(blocks, api.Block{Mode: 1, V: vec(2+k, n)}, api.Block{Mode: 2, V: vec(k, n)})
		}
		for mode := 1; mode < 4; mode++ {
			for _, dc := range [][3]int{{n, 0, 0}, {0, n, 0}, {0, 0, n}, {n, n, n}} {
				blocks = append(blocks, api.Block{Mode: mode, DC: dc}, api.Block{Mode: mode, Global: true, DC: dc})
			}
		}
	}
	for _, b := range blocks {
		for n := range 3 {
			wantEven(t, filled(1, 1, n, b), false)
			wantEven(t, filled(2, 2, n, b), false)
			f := filled(2, 2, n, plainByWords(b))
			wantEven(t, f, true)
			for i := range f.Blocks {
				if firstOf(f, i) != i {
					continue
				}
				g := copied(f)
				for j := range g.Blocks {
					if firstOf(g, j) == i {
						g.Blocks[j] = b
					}
				}
				wantEven(t, g, false)
			}
		}
	}
}

func TestEvenOfDrawnFields(t *testing.T) {
	evens := 0
	for seed := range 4000 {
		s := seeded(seed)
		f := field.Level(s.field(s.below(3)+1, s.below(3)+1))
		for range s.below(3) {
			i := s.below(len(f.Blocks))
			if s.yes() {
				f.Blocks[i] = f.Blocks[s.below(len(f.Blocks))]
			} else {
				*eachPart(&f.Blocks[i])[s.below(7)] = s.one(0, 0, 1)
			}
		}
		want := evenByWords(f)
		wantEven(t, f, want)
		if want {
			evens++
		}
	}
	if evens < 500 || evens > 3500 {
		t.Errorf("%d of 4000 are even", evens)
	}
}

func TestEvenOfWhatIsNotRight(t *testing.T) {
	for _, f := range wrongFields() {
		wantEven(t, f, false)
	}
	// All blocks of such a field are alike and plain.
	for _, n := range []int{mostVec + 1, -mostVec - 1} {
		for s := range 3 {
			wantEven(t, filled(2, 1, s, api.Block{DC: [3]int{n, 0, 0}}), false)
			wantEven(t, filled(2, 1, s, api.Block{Mode: 3, V: [2]api.Vec{{}, {Y: n}}}), false)
			wantEven(t, filled(2, 1, s, api.Block{Mode: 4}), false)
		}
	}
	f := field.New(1, 2)
	f.Split[1] = 3
	wantEven(t, f, false)
}

// P16.1: Units and List.

func TestUnitsThatWereWorkedOut(t *testing.T) {
	wantUnits(t, field.New(1, 1), []told{placed(0, 0, 0, 4)})
	wantUnits(t, split(1, 1, 1), []told{placed(0, 0, 0, 2), placed(0, 2, 0, 2), placed(0, 0, 2, 2), placed(0, 2, 2, 2)})
	wantUnits(t, split(1, 1, 2), []told{placed(0, 0, 0, 1), placed(0, 1, 0, 1), placed(0, 2, 0, 1), placed(0, 3, 0, 1),
		placed(0, 0, 1, 1), placed(0, 1, 1, 1), placed(0, 2, 1, 1), placed(0, 3, 1, 1),
		placed(0, 0, 2, 1), placed(0, 1, 2, 1), placed(0, 2, 2, 1), placed(0, 3, 2, 1),
		placed(0, 0, 3, 1), placed(0, 1, 3, 1), placed(0, 2, 3, 1), placed(0, 3, 3, 1)})
	wantUnits(t, field.New(3, 2), []told{placed(0, 0, 0, 4), placed(1, 4, 0, 4), placed(2, 8, 0, 4), placed(3, 0, 4, 4), placed(4, 4, 4, 4), placed(5, 8, 4, 4)})
	wantUnits(t, field.New(1, 3), []told{placed(0, 0, 0, 4), placed(1, 0, 4, 4), placed(2, 0, 8, 4)})
	f, want := mixed()
	wantUnits(t, f, want)
	// The units hang on the Splits alone.
	for i := range f.Blocks {
		f.Blocks[i] = seeded(i).block()
	}
	wantUnits(t, f, want)
}

func TestUnitsByTheChaptersWords(t *testing.T) {
	for _, f := range fewFields() {
		wantUnits(t, f, unitsByWords(f))
	}
	for seed := range 300 {
		s := seeded(seed)
		f := s.field(s.below(9)+1, s.below(9)+1)
		wantUnits(t, f, unitsByWords(f))
	}
}

// Each block is in one unit, whose square it lies in.
func TestUnitsCoverAField(t *testing.T) {
	for _, f := range fewFields() {
		times := make([]int, len(f.Blocks))
		for i, u := range field.Units(f) {
			if u.X/4 != i%f.Across || u.Y/4 != i/f.Across || u.X%4+u.Size > 4 || u.Y%4+u.Size > 4 {
				t.Fatalf("%v isn't of square %d", u, i)
			}
			for k := range u.Size * u.Size {
				times[(u.Y+k/u.Size)*4*f.Across+u.X+k%u.Size]++
			}
		}
		if i := slices.IndexFunc(times, func(n int) bool { return n != 1 }); i >= 0 {
			t.Fatalf("block %d is told %d times", i, times[i])
		}
	}
}

// A loop that is left is told nothing more; the next one over the same iterator begins anew.
func TestUnitsEndWhenTheyAreToldTo(t *testing.T) {
	for _, f := range fewFields() {
		want := unitsByWords(f)
		units := field.Units(f)
		last := len(want) - 1
		for _, end := range []int{0, min(1, last), last / 2, max(last-1, 0), last} {
			var got []told
			for i, u := range units {
				if got = append(got, told{i, u}); len(got) > end {
					break
				}
			}
			if !slices.Equal(got, want[:end+1]) {
				t.Fatalf("ended at %d: %d units", end, len(got))
			}
		}
	}
}

// At each of their units: within a row of a square, at its end, at a square's end.
func TestUnitsAskNoMoreBehindAFalse(t *testing.T) {
	f, want := mixed()
	for _, g := range []api.Field{f, split(1, 1, 0), split(1, 1, 1), split(1, 1, 2), split(2, 2, 1), split(2, 1, 2)} {
		if g.Across == 3 && len(want) != len(field.List(g)) {
			t.Fatalf("%d units", len(field.List(g)))
		}
		for end := range len(unitsByWords(g)) {
			asked := 0
			field.Units(g)(func(int, api.Unit) bool {
				asked++
				return asked <= end
			})
			if asked != end+1 {
				t.Fatalf("ended at %d: asked %d times", end, asked)
			}
		}
	}
}

// Two loops over one iterator, one in the other, don't know of each other.
func TestLoopsOfUnitsAreApart(t *testing.T) {
	f, want := mixed()
	units := field.Units(f)
	var outer []told
	for i, u := range units {
		outer = append(outer, told{i, u})
		var inner []told
		for i, u := range units {
			inner = append(inner, told{i, u})
		}
		if !slices.Equal(inner, want) {
			t.Fatalf("inner of %d, %v", i, u)
		}
	}
	if !slices.Equal(outer, want) {
		t.Fatalf("outer: %v", outer)
	}
}

// What is handed in isn't kept: a field that is changed behind the call, even ahead of the loop or within it, has
// the units that it had.
func TestUnitsOfAFieldThatIsChanged(t *testing.T) {
	f, want := mixed()
	units := field.Units(f)
	for i := range f.Split {
		f.Split[i] = 3
	}
	f.Blocks[0].Mode = 4
	var got []told
	for i, u := range units {
		got = append(got, told{i, u})
	}
	if !slices.Equal(got, want) {
		t.Errorf("changed ahead: %v", got)
	}
	f, _ = mixed()
	got = nil
	for i, u := range field.Units(f) {
		got = append(got, told{i, u})
		clear(f.Split)
	}
	if !slices.Equal(got, want) {
		t.Errorf("changed within: %v", got)
	}
	f.Split[0] = 3
	units = field.Units(f)
	f.Split[0] = 0
	for i, u := range units {
		t.Errorf("%d, %v: it wasn't right", i, u)
	}
}

func TestUnitsOfWhatIsNotRight(t *testing.T) {
	for _, f := range wrongFields() {
		wantUnits(t, f, nil)
	}
}

func TestListIsNewMemory(t *testing.T) {
	f, want := mixed()
	first, second := field.List(f), field.List(f)
	for i := range first[:cap(first)] {
		first[:cap(first)][i] = api.Unit{X: -1, Y: -2, Size: -3}
	}
	for i, u := range second {
		if u != want[i].u {
			t.Fatalf("another answer: %v", second)
		}
	}
	wantUnits(t, f, want)
}

// P16.2: At.

func TestAtEachPlace(t *testing.T) {
	for i, s := range [][2]int{{1, 1}, {2, 1}, {1, 2}, {3, 2}, {5, 3}} {
		f := seeded(i).field(s[0], s[1])
		for k, b := range f.Blocks {
			wantAt(t, f, k%(4*s[0]), k/(4*s[0]), b, true)
		}
	}
	f := seeded(9).field(64, 64)
	for _, k := range []int{0, 1, 255, 256, 257, 32767, 65279, 65280, 65534, 65535} {
		wantAt(t, f, k%256, k/256, f.Blocks[k], true)
	}
}

func TestAtOutside(t *testing.T) {
	for i, s := range [][2]int{{1, 1}, {3, 2}, {2, 3}, {1, 64}, {64, 1}} {
		f := seeded(i).field(s[0], s[1])
		w, h := 4*s[0], 4*s[1]
		for _, x := range []int{-1, -2, -w, w, w + 1, 2 * w, 1 << 32, -1 << 32, 1 << 62, -1 << 62, least, least + 1, greatest - 1, greatest} {
			for _, y := range []int{0, 1, h / 2, h - 1, h, -1, least, greatest} {
				wantAt(t, f, x, y, api.Block{}, false)
			}
		}
		for _, y := range []int{-1, -2, -h, h, h + 1, 2 * h, 1 << 32, -1 << 32, 1 << 60, 1 << 62, -1 << 62, least, least + 1, greatest - 1, greatest} {
			for _, x := range []int{0, 1, w / 2, w - 1, w, -1, least, greatest} {
				wantAt(t, f, x, y, api.Block{}, false)
			}
		}
	}
}

func TestAtOfWhatIsNotRight(t *testing.T) {
	for _, f := range wrongFields() {
		for _, p := range [][2]int{{0, 0}, {3, 3}, {1, 0}, {0, 1}, {11, 7}, {-1, -1}, {4, 0}, {least, greatest}} {
			wantAt(t, f, p[0], p[1], api.Block{}, false)
		}
	}
}

// P16.2: Set.

// setByWords: a field as it is behind Set, and whether that answers true.
func setByWords(f api.Field, u api.Unit, b api.Block) (api.Field, bool) {
	g := copied(f)
	if !rightByWords(f) || u.Size < 1 || u.Size > 4*most || u.X < 0 || u.Y < 0 || u.X > 4*most || u.Y > 4*most || u.X+u.Size > 4*f.Across || u.Y+u.Size > 4*f.Down {
		return g, false
	}
	for i := range g.Blocks {
		x, y := i%(4*f.Across), i/(4*f.Across)
		if x >= u.X && x < u.X+u.Size && y >= u.Y && y < u.Y+u.Size {
			g.Blocks[i] = b
		}
	}
	if !rightByWords(g) {
		return copied(f), false
	}
	return g, true
}

// wantSet: what Set answers, and what the field is then, its spare room as it was.
func wantSet(t *testing.T, f api.Field, u api.Unit, b api.Block) bool {
	t.Helper()
	want, ok := setByWords(f, u, b)
	g := roomy(f)
	room := copied(whole(g))
	if got := field.Set(g, u, b); got != ok {
		t.Fatalf("%d by %d, %v, %v: Set is %t", f.Across, f.Down, u, b, got)
	}
	if !same(g, want) {
		t.Fatalf("%d by %d, %v, %v: the field is another one", f.Across, f.Down, u, b)
	}
	w := whole(g)
	if !slices.Equal(w.Split[len(g.Split):], room.Split[len(g.Split):]) || !slices.Equal(w.Blocks[len(g.Blocks):], room.Blocks[len(g.Blocks):]) {
		t.Fatalf("%d by %d, %v, %v: the spare room is another one", f.Across, f.Down, u, b)
	}
	return ok
}

func TestSetThatWasWorkedOut(t *testing.T) {
	f := field.New(2, 1)
	b := api.Block{Mode: 1, V: [2]api.Vec{{X: 7, Y: -8}, {}}}
	if !field.Set(f, api.Unit{X: 5, Y: 1, Size: 2}, b) {
		t.Fatalf("false")
	}
	for i, got := range f.Blocks {
		want := api.Block{}
		if slices.Contains([]int{13, 14, 21, 22}, i) {
			want = b
		}
		if got != want {
			t.Errorf("%d: %v", i, got)
		}
	}
	// What doesn't count is set as it is handed in.
	b = api.Block{Global: true, V: [2]api.Vec{{X: 1, Y: 2}, {X: 3, Y: 4}}, DC: [3]int{5, 6, 7}}
	if !field.Set(f, api.Unit{X: 7, Y: 3, Size: 1}, b) || f.Blocks[31] != b {
		t.Errorf("%v", f.Blocks[31])
	}
}

// Units of each size, at each place within, partly beyond each edge, and wholly.
func TestSetOfEachUnit(t *testing.T) {
	for i, s := range [][2]int{{1, 1}, {2, 1}, {1, 2}, {3, 2}} {
		f := seeded(i).field(s[0], s[1])
		b := api.Block{Mode: 2, Global: true, DC: [3]int{-1, i, mostVec}}
		set := 0
		for size := -2; size <= 14; size++ {
			for x := -3; x <= 4*s[0]+2; x++ {
				for y := -3; y <= 4*s[1]+2; y++ {
					if wantSet(t, f, api.Unit{X: x, Y: y, Size: size}, b) {
						set++
					}
				}
			}
		}
		want := 0
		for size := 1; size <= 4*min(s[0], s[1]); size++ {
			want += (4*s[0] - size + 1) * (4*s[1] - size + 1)
		}
		if set != want {
			t.Errorf("%v: %d times true, not %d", s, set, want)
		}
	}
}

func TestSetOfGreatUnits(t *testing.T) {
	f := seeded(1).field(64, 64)
	b := api.Block{Mode: 3}
	for _, u := range []api.Unit{{Size: 256}, {Size: 255}, {X: 1, Y: 1, Size: 255}, {X: 255, Y: 255, Size: 1}, {X: 252, Y: 252, Size: 4}} {
		if !wantSet(t, f, u, b) {
			t.Errorf("%v", u)
		}
	}
	for _, u := range []api.Unit{{Size: 257}, {X: 1, Size: 256}, {Y: 1, Size: 256}, {X: 255, Y: 255, Size: 2}, {X: 256, Size: 1}, {Y: 256, Size: 1}, {X: -1, Size: 256}} {
		if wantSet(t, f, u, b) {
			t.Errorf("%v", u)
		}
	}
}

func TestSetAtTheEndsOfNumbers(t *testing.T) {
	f := seeded(2).field(2, 2)
	ends := []int{least, least + 1, least + 8, -1 << 62, -1 << 32, -8, -1, 0, 1, 2, 4, 7, 8, 9, 1 << 32, 1<<32 + 1, 1 << 62, 1<<62 + 1, greatest - 8, greatest - 7, greatest - 1, greatest}
	for _, x := range ends {
		for _, y := range ends {
			for _, size := range ends {
				wantSet(t, f, api.Unit{X: x, Y: y, Size: size}, api.Block{Mode: 1})
			}
		}
	}
}

func TestSetOfBlocksAtTheBounds(t *testing.T) {
	f := seeded(3).field(2, 1)
	for mode := range 4 {
		for k := range 7 {
			for _, n := range []int{mostVec, -mostVec} {
				b := api.Block{Mode: mode, Global: n > 0}
				*eachPart(&b)[k] = n
				for _, u := range []api.Unit{{Size: 4}, {X: 4, Size: 4}, {X: 2, Y: 2, Size: 2}, {X: 7, Y: 3, Size: 1}} {
					if !wantSet(t, f, u, b) {
						t.Errorf("%v, %v", u, b)
					}
				}
			}
		}
	}
}

func TestSetOfBlocksThatAreNotRight(t *testing.T) {
	f := seeded(4).field(2, 1)
	for _, b := range wrongBlocks() {
		for _, u := range []api.Unit{{Size: 4}, {X: 2, Y: 2, Size: 2}, {X: 7, Y: 3, Size: 1}, {}, {X: 8, Size: 1}} {
			if wantSet(t, f, u, b) {
				t.Errorf("%v, %v", u, b)
			}
		}
	}
}

// Not even a block that is over the wrong ones makes such a field right.
func TestSetOverWhatIsNotRight(t *testing.T) {
	for _, f := range wrongFields() {
		for _, u := range []api.Unit{{Size: 4}, {Size: 1}, {X: 3, Y: 3, Size: 1}, {X: 1, Size: 2}, {X: 11, Y: 7, Size: 1}, {Size: 8}} {
			before := copied(f)
			if field.Set(f, u, api.Block{Mode: 1, DC: [3]int{4, 5, 6}}) || !same(f, before) {
				t.Fatalf("%d by %d, %v", f.Across, f.Down, u)
			}
		}
	}
	f := field.New(1, 1)
	for i := range f.Blocks {
		f.Blocks[i].Mode = 4
	}
	if field.Set(f, api.Unit{Size: 4}, api.Block{}) || f.Blocks[0].Mode != 4 {
		t.Errorf("over wrong blocks")
	}
}

// Many calls, one after the other, on one field.
func TestSetAgainAndAgain(t *testing.T) {
	for seed := range 60 {
		s := seeded(seed)
		f := field.New(s.below(4)+1, s.below(4)+1)
		for range 60 {
			u := api.Unit{X: s.below(20) - 2, Y: s.below(20) - 2, Size: s.one(1, 1, 2, 2, 4, 3, 5, 8, 0, -1)}
			b := s.block()
			if s.below(10) == 0 {
				b.Mode = 4
			}
			want, ok := setByWords(f, u, b)
			if field.Set(f, u, b) != ok || !same(f, want) {
				t.Fatalf("%d: %v, %v", seed, u, b)
			}
			if x, y := s.below(18)-1, s.below(18)-1; x >= 0 && x < 4*f.Across && y >= 0 && y < 4*f.Down {
				wantAt(t, f, x, y, want.Blocks[y*4*f.Across+x], true)
			} else {
				wantAt(t, f, x, y, api.Block{}, false)
			}
		}
	}
}

// P16.2: Plain.

func TestPlainByTheChaptersWords(t *testing.T) {
	for seed := range 3000 {
		b := seeded(seed).block()
		if got := field.Plain(b); got != plainByWords(b) {
			t.Fatalf("%v is %v", b, got)
		}
	}
	for _, b := range wrongBlocks() {
		if got := field.Plain(b); got != plainByWords(b) {
			t.Fatalf("%v is %v", b, got)
		}
	}
}

// P16.2: Level.

func TestLevelByTheChaptersWords(t *testing.T) {
	for _, f := range fewFields() {
		if !same(field.Level(f), levelByWords(f)) {
			t.Fatalf("%d by %d", f.Across, f.Down)
		}
	}
	for seed := range 400 {
		s := seeded(seed)
		f := s.field(s.below(5)+1, s.below(5)+1)
		if !same(field.Level(f), levelByWords(f)) {
			t.Fatalf("%d by %d, Splits %v", f.Across, f.Down, f.Split)
		}
	}
}

// Of each unit the first block counts, in its place and no other.
func TestLevelOfEachSplit(t *testing.T) {
	for n, size := range []int{4, 2, 1} {
		f := split(2, 2, n)
		for i := range f.Blocks {
			f.Blocks[i].DC[1] = i + 1
		}
		for i, b := range field.Level(f).Blocks {
			if want := i/8/size*size*8 + i%8/size*size + 1; b != (api.Block{DC: [3]int{0, want, 0}}) {
				t.Fatalf("%d: %v, not %d", i, b, want)
			}
		}
	}
}

func TestLevelOfWhatIsNotRight(t *testing.T) {
	for _, f := range wrongFields() {
		wantZero(t, field.Level(f))
	}
}

// Neither the answer nor its spare room is what was handed in, or what another call answered.
func TestLevelIsNewMemory(t *testing.T) {
	for _, f := range []api.Field{roomy(seeded(5).field(3, 2)), roomy(field.Level(seeded(6).field(1, 1)))} {
		before, want := copied(whole(f)), levelByWords(f)
		first, second := field.Level(f), field.Level(f)
		if len(first.Split) != len(f.Split) || len(first.Blocks) != len(f.Blocks) {
			t.Fatalf("%d, %d", len(first.Split), len(first.Blocks))
		}
		w := whole(first)
		for i := range w.Split {
			w.Split[i] = -5
		}
		for i := range w.Blocks {
			w.Blocks[i].Mode = -6
		}
		if !same(whole(f), before) || !same(second, want) {
			t.Fatalf("the answer was shared")
		}
		w = whole(f)
		clear(w.Split)
		clear(w.Blocks)
		if !same(second, want) {
			t.Fatalf("the field was kept")
		}
	}
}

// P16.2: Squares.

// countedSquares of a side: one more, as long as there is a place that none covers.
func countedSquares(side, sep int) int {
	n := 0
	for covered := 0; covered < side; covered += 4 * sep {
		n++
	}
	return n
}

func wantSquares(t *testing.T, w, h, sep, across, down int) {
	t.Helper()
	if a, d := field.Squares(w, h, sep); a != across || d != down {
		t.Fatalf("%d by %d, %d: %d, %d, not %d, %d", w, h, sep, a, d, across, down)
	}
}

func TestSquaresOfEachSide(t *testing.T) {
	for sep := 1; sep <= mostSep; sep++ {
		for side := 1; side <= mostSide; side++ {
			other := (side*7+sep)%mostSide + 1
			wantSquares(t, side, other, sep, countedSquares(side, sep), countedSquares(other, sep))
		}
	}
}

func TestSquaresAboutTheirSides(t *testing.T) {
	for sep := 1; sep <= mostSep; sep++ {
		for n := 1; 4*sep*n <= mostSide; n++ {
			side := 4 * sep * n
			wantSquares(t, side-1, side, sep, n, n)
			if side < mostSide {
				wantSquares(t, side+1, side, sep, n+1, n)
				wantSquares(t, side, side+1, sep, n, n+1)
			}
		}
	}
}

func TestSquaresOfWhatMayNotBe(t *testing.T) {
	wrong := []int{0, -1, -4, -1 << 32, -1 << 62, least, least + 1, 1025, 1026, 65536, 1 << 32, 1<<32 + 4, 1 << 61, 1 << 62, 1<<62 + 1, greatest - 3, greatest}
	for _, n := range wrong {
		for _, sep := range []int{1, 4, 255, 256} {
			for _, side := range []int{1, 4, 64, mostSide} {
				wantSquares(t, n, side, sep, 0, 0)
				wantSquares(t, side, n, sep, 0, 0)
			}
			wantSquares(t, n, n, sep, 0, 0)
		}
	}
	for _, sep := range append(wrong, 257, 258, 512, 1024, -255, -256) {
		for _, side := range []int{0, 1, 4, 64, mostSide, 1025} {
			wantSquares(t, side, 5, sep, 0, 0)
			wantSquares(t, 5, side, sep, 0, 0)
		}
	}
}

// P16.3: what Level does is even, and stays.

func TestLevelIsEven(t *testing.T) {
	for seed := range 600 {
		s := seeded(seed)
		f := s.field(s.below(6)+1, s.below(6)+1)
		g := field.Level(f)
		wantRight(t, g, true)
		wantEven(t, g, true)
		if !slices.Equal(g.Split, f.Split) || g.Across != f.Across || g.Down != f.Down {
			t.Fatalf("%d: another shape", seed)
		}
		if !same(field.Level(g), g) {
			t.Fatalf("%d: another one, levelled again", seed)
		}
	}
	for _, f := range fewFields() {
		if g := field.Level(f); field.Even(f) != same(f, g) {
			t.Fatalf("%d by %d: even is %t", f.Across, f.Down, field.Even(f))
		}
	}
}

// What Set lays over the units of a field, plain, is even.
func TestUnitsThatAreSetAreEven(t *testing.T) {
	for seed := range 200 {
		s := seeded(seed)
		f := s.field(s.below(4)+1, s.below(4)+1)
		for _, u := range field.List(f) {
			if !field.Set(f, u, field.Plain(s.block())) {
				t.Fatalf("%d: %v", seed, u)
			}
		}
		wantEven(t, f, true)
		if !same(field.Level(f), f) {
			t.Fatalf("%d: another level", seed)
		}
	}
}

// Rule 5: what is handed in isn't changed, its spare room included.
func TestFieldsStayAsTheyWere(t *testing.T) {
	fields := []api.Field{roomy(seeded(7).field(3, 2)), roomy(field.Level(seeded(8).field(2, 2)))}
	wrong := seeded(9).field(2, 2)
	wrong.Blocks[63].Mode = 4
	for _, f := range append(fields, roomy(wrong)) {
		before := copied(whole(f))
		field.Right(f)
		field.Even(f)
		field.List(f)
		for range field.Units(f) {
		}
		field.At(f, 3, 4)
		field.Level(f)
		if !same(whole(f), before) {
			t.Errorf("%d by %d was changed", f.Across, f.Down)
		}
	}
}

// fieldOf bytes: sides, Splits, blocks of few bytes each, and now and then one too many or too few.
func fieldOf(b []byte) api.Field {
	take := func() int {
		if len(b) == 0 {
			return 0
		}
		n := int(int8(b[0]))
		b = b[1:]
		return n
	}
	f := field.New(take()&3+1, take()&3+1)
	for i := range f.Split {
		f.Split[i] = take() & 3 % 3
	}
	for len(b) > 1 {
		at := &f.Blocks[(take()&0xff)%len(f.Blocks)]
		switch kind := take(); kind & 15 {
		case 0, 1, 2:
			at.Mode = take() & 3
		case 3:
			at.Mode = take()
		case 4, 5:
			at.Global = !at.Global
		case 6:
			f.Split[(take()&0xff)%len(f.Split)] = take()
		case 7:
			*eachPart(at)[(take()&0xff)%7] = take() << (kind & 0xff >> 4 << 2)
		case 8:
			*eachPart(at)[(take()&0xff)%7] = mostVec + take()
		default:
			*eachPart(at)[(take()&0xff)%7] = take()
		}
	}
	return f
}

func FuzzAnyField(f *testing.F) {
	f.Add([]byte{0, 0, 0}, 0, 0, 4, 0)
	f.Add([]byte{1, 1, 0, 1, 2, 0, 3, 0, 3, 5, 9, 9, 9}, 1, 1, 2, 3)
	f.Add([]byte{2, 1, 2, 2, 2, 2, 2, 2, 7, 8, 0, 1}, -1, 3, 1, mostVec)
	f.Add([]byte{3, 3, 1, 1, 0, 200, 3, 4}, greatest, least, greatest, mostVec+1)
	f.Add([]byte{0, 3, 0, 0, 0, 0, 1, 6, 3, 4}, 3, 12, 1<<62, -mostVec-1)
	f.Fuzz(func(t *testing.T, data []byte, x, y, size, number int) {
		g := fieldOf(data)
		right := rightByWords(g)
		wantRight(t, g, right)
		wantEven(t, g, evenByWords(g))
		if !right {
			wantUnits(t, g, nil)
			wantZero(t, field.Level(g))
			wantAt(t, g, x, y, api.Block{}, false)
		} else {
			wantUnits(t, g, unitsByWords(g))
			level := field.Level(g)
			if !same(level, levelByWords(g)) || !same(field.Level(level), level) {
				t.Fatal("another level")
			}
			wantEven(t, level, true)
			if x >= 0 && x < 4*g.Across && y >= 0 && y < 4*g.Down {
				wantAt(t, g, x, y, g.Blocks[y*4*g.Across+x], true)
			} else {
				wantAt(t, g, x, y, api.Block{}, false)
			}
		}
		wantSet(t, g, api.Unit{X: x, Y: y, Size: size}, api.Block{Mode: len(data) % 5, DC: [3]int{1, number, -1}})
		across, down := field.Squares(x, y, size)
		if x < 1 || x > mostSide || y < 1 || y > mostSide || size < 1 || size > mostSep {
			if across != 0 || down != 0 {
				t.Fatalf("%d by %d, %d: %d, %d", x, y, size, across, down)
			}
		} else if across != countedSquares(x, size) || down != countedSquares(y, size) {
			t.Fatalf("%d by %d, %d: %d, %d", x, y, size, across, down)
		}
	})
}
