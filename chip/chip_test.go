package chip_test

import (
	"bytes"
	"math"
	"math/rand"
	"slices"
	"testing"

	"casemate/api"
	"casemate/bits"
	"casemate/chip"
	"casemate/ecc"
)

// Numbers that are no block, no page and no bit.
var outside = []int{-1, -2, -64, -256, 256, 257, 1 << 31, 1 << 32, 1<<32 + 1, 1 << 60, 1 << 61, 1 << 62, math.MinInt, math.MinInt + 1, math.MaxInt, math.MaxInt - 1, math.MinInt32, math.MaxInt32}

// shape is a geometry of these numbers.
func shape(blocks, pages, sectors, size, flips int) api.Geometry {
	return api.Geometry{Blocks: blocks, Pages: pages, Sectors: sectors, Bytes: size, Flips: flips}
}

// small has pages of 19 raw bytes, 152 bits.
func small() api.Geometry { return shape(3, 4, 1, 16, 1) }

// shapes are geometries of unlike chips: the least and the greatest among them.
func shapes() []api.Geometry {
	return []api.Geometry{small(), shape(1, 2, 1, 16, 1), shape(256, 64, 8, 512, 8), shape(256, 2, 4, 4, 8), shape(1, 64, 1, 512, 3), shape(5, 7, 3, 20, 2)}
}

// size is how many raw bytes a page has.
func size(g api.Geometry) int { return g.Sectors*(g.Bytes+(13*g.Flips+7)/8) + 1 }

// blank is an erased page.
func blank(g api.Geometry) []byte { return bytes.Repeat([]byte{0xff}, size(g)) }

// some makes a page's raw bytes.
func some(source *rand.Rand, g api.Geometry) []byte {
	p := make([]byte, size(g))
	source.Read(p)
	return p
}

// of makes raw bytes that count up from n on: none of them is ff, while n is small.
func of(g api.Geometry, n int) []byte {
	p := make([]byte, size(g))
	for i := range p {
		p[i] = byte((n + i) % 200)
	}
	return p
}

// made is the call where no error may come.
func made(t *testing.T, g api.Geometry, bad ...int) *chip.Chip {
	t.Helper()
	c, err := chip.New(g, bad)
	if c == nil || err != api.OK {
		t.Fatalf("New(%v, %v) = %v, %d", g, bad, c, err)
	}
	return c
}

// is holds an error against the one that is asked for.
func is(t *testing.T, name string, got, want api.Errno) {
	t.Helper()
	if got != want {
		t.Fatalf("%s = %d, want %d", name, got, want)
	}
}

// reads holds a page against what is to be read of it.
func reads(t *testing.T, c *chip.Chip, block, page int, want []byte) {
	t.Helper()
	got, err := c.Read(block, page)
	if err != api.OK || !bytes.Equal(got, want) {
		t.Fatalf("Read(%d, %d) = % x, %d, want % x", block, page, got, err, want)
	}
}

// fused holds the fuse against what it is to be.
func fused(t *testing.T, c *chip.Chip, want int) {
	t.Helper()
	if got := c.Fuse(); got != want {
		t.Fatalf("Fuse() = %d, want %d", got, want)
	}
}

// filled programs all pages of a block, and answers what they are.
func filled(t *testing.T, c *chip.Chip, block, from int) [][]byte {
	t.Helper()
	g := c.Geometry()
	var out [][]byte
	for page := range g.Pages {
		raw := of(g, from+page)
		is(t, "Program", c.Program(block, page, raw), api.OK)
		out = append(out, raw)
	}
	return out
}

// P7.1: a chip that was just made.
func TestNew(t *testing.T) {
	for _, g := range shapes() {
		c := made(t, g)
		if !c.Up() || c.Fuse() != 0 || c.Geometry() != g {
			t.Fatalf("%v: %v, %d, %v", g, c.Up(), c.Fuse(), c.Geometry())
		}
		for block := range g.Blocks {
			if c.Bad(block) {
				t.Fatalf("%v: block %d is bad", g, block)
			}
			for page := range g.Pages {
				reads(t, c, block, page, blank(g))
			}
		}
	}
}

// P7.1: the blocks in bad are marked, those alone, however often and in whatever order they stand there.
func TestNewBad(t *testing.T) {
	g := shape(256, 2, 1, 16, 1)
	for _, bad := range [][]int{nil, {}, {0}, {255}, {7, 3, 7, 7, 0, 255}} {
		c := made(t, g, bad...)
		for block := range g.Blocks {
			if c.Bad(block) != slices.Contains(bad, block) {
				t.Fatalf("New(.., %v): Bad(%d) = %v", bad, block, c.Bad(block))
			}
		}
	}
	var all []int
	for block := range g.Blocks {
		all = append(all, block)
	}
	c := made(t, g, all...)
	for block := range g.Blocks {
		if !c.Bad(block) {
			t.Fatalf("all are bad, and %d is not", block)
		}
	}
}

// P7.1: geometries that may not be, and numbers in bad that are no block.
func TestNewErrors(t *testing.T) {
	refused := func(g api.Geometry, bad []int) {
		t.Helper()
		if c, err := chip.New(g, bad); c != nil || err != api.ErrArg {
			t.Fatalf("New(%v, %v) = %v, %d", g, bad, c, err)
		}
	}
	for _, g := range []api.Geometry{{}, shape(0, 2, 1, 16, 1), shape(257, 2, 1, 16, 1), shape(1, 1, 1, 16, 1), shape(1, 65, 1, 16, 1), shape(1, 2, 0, 16, 1), shape(1, 2, 9, 16, 1), shape(1, 2, 1, 12, 1), shape(1, 2, 1, 18, 1), shape(1, 2, 1, 516, 1), shape(1, 2, 1, 16, 0), shape(1, 2, 1, 16, 9)} {
		refused(g, nil)
		refused(g, []int{0})
	}
	for _, n := range outside {
		if n != api.MaxBlocks {
			refused(shape(n, 2, 1, 16, 1), nil)
		}
		refused(shape(1, n, 1, 16, 1), nil)
		refused(shape(1, 2, n, 16, 1), nil)
		refused(shape(n, n, n, n, n), nil)
		refused(small(), []int{n})
		refused(small(), []int{0, n, 1})
		refused(shape(256, 2, 1, 16, 1), []int{n})
	}
	for _, g := range shapes() {
		refused(g, []int{g.Blocks})
		refused(g, []int{0, g.Blocks})
		refused(g, []int{-1})
	}
}

// P7.1: power is given and taken, and nothing else changes by it.
func TestPower(t *testing.T) {
	g := small()
	c := made(t, g, 1)
	raw := of(g, 1)
	is(t, "Program", c.Program(0, 0, raw), api.OK)
	is(t, "Burn", c.Burn(5), api.OK)
	c.On()
	if !c.Up() {
		t.Fatal("On, with power: it went")
	}
	for range 2 {
		c.Off()
		if c.Up() {
			t.Fatal("Off: it has power")
		}
	}
	c.On()
	if !c.Up() || !c.Bad(1) || c.Bad(0) {
		t.Fatal("On: no power, or other marks")
	}
	fused(t, c, 5)
	reads(t, c, 0, 0, raw)
	is(t, "Program(0, 0)", c.Program(0, 0, raw), api.ErrOrder)
	is(t, "Program(0, 1)", c.Program(0, 1, raw), api.OK)
}

// P7.2 and P7.5: what was programmed is read, page by page, and nothing beside it changes.
func TestProgram(t *testing.T) {
	source := rand.New(rand.NewSource(701))
	for _, g := range shapes() {
		c := made(t, g)
		last := g.Blocks - 1
		want := make([][]byte, g.Pages)
		for page := range want {
			want[page] = blank(g)
		}
		for page := range g.Pages {
			want[page] = some(source, g)
			is(t, "Program", c.Program(last, page, want[page]), api.OK)
			for i, raw := range want {
				reads(t, c, last, i, raw)
			}
			if g.Blocks > 1 {
				reads(t, c, 0, page, blank(g))
			}
		}
	}
}

// P7.2: a page of ff is programmed as well, and counts.
func TestProgramBlank(t *testing.T) {
	g := small()
	c := made(t, g)
	is(t, "Program", c.Program(0, 0, blank(g)), api.OK)
	reads(t, c, 0, 0, blank(g))
	is(t, "again", c.Program(0, 0, of(g, 1)), api.ErrOrder)
	is(t, "next", c.Program(0, 1, of(g, 1)), api.OK)
}

// P7.2: a marked block is programmed and erased like any other: what is done with marks is not the chip's.
func TestProgramMarked(t *testing.T) {
	g := small()
	c := made(t, g, 0)
	is(t, "Program", c.Program(0, 0, of(g, 1)), api.OK)
	reads(t, c, 0, 0, of(g, 1))
	is(t, "Erase", c.Erase(0), api.OK)
	reads(t, c, 0, 0, blank(g))
	if !c.Bad(0) {
		t.Fatal("the mark went")
	}
}

// P7.2: each page but the next one is out of order, of each block for itself.
func TestProgramOrder(t *testing.T) {
	g := small()
	c := made(t, g)
	raw := of(g, 9)
	for next := range g.Pages + 1 {
		for page := range g.Pages {
			if page != next {
				is(t, "Program", c.Program(1, page, raw), api.ErrOrder)
			}
		}
		for page := range g.Pages {
			if page >= next {
				reads(t, c, 1, page, blank(g))
			}
		}
		if next < g.Pages {
			is(t, "Program", c.Program(1, next, of(g, next)), api.OK)
		}
		is(t, "other", c.Program(0, 1, raw), api.ErrOrder)
	}
	for page := range g.Pages {
		reads(t, c, 1, page, of(g, page))
	}
}

// P7.2, P7.3 and P7.5: no such block or page, or raw of another length.
func TestNoSuch(t *testing.T) {
	for _, g := range shapes() {
		c := made(t, g)
		raw := of(g, 1)
		for _, n := range append([]int{g.Blocks, g.Blocks + 1}, outside...) {
			is(t, "Program", c.Program(n, 0, raw), api.ErrArg)
			is(t, "Force", c.Force(n, 0, raw), api.ErrArg)
			is(t, "Erase", c.Erase(n), api.ErrArg)
			is(t, "Mark", c.Mark(n), api.ErrArg)
			if p, err := c.Read(n, 0); len(p) != 0 || err != api.ErrArg {
				t.Fatalf("Read(%d, 0) = % x, %d", n, p, err)
			}
			if c.Bad(n) {
				t.Fatalf("Bad(%d)", n)
			}
			c.Weak(n)
			c.Flip(n, 0, []int{0})
		}
		for _, n := range append([]int{g.Pages, g.Pages + 1, 64, 65}, outside...) {
			is(t, "Program", c.Program(0, n, raw), api.ErrArg)
			is(t, "Force", c.Force(0, n, raw), api.ErrArg)
			if p, err := c.Read(0, n); len(p) != 0 || err != api.ErrArg {
				t.Fatalf("Read(0, %d) = % x, %d", n, p, err)
			}
			c.Flip(0, n, []int{0})
		}
		for _, p := range [][]byte{nil, {}, raw[1:], raw[:1], append(slices.Clone(raw), 0), make([]byte, 2*len(raw)), make([]byte, g.Sectors*g.Bytes)} {
			is(t, "Program", c.Program(0, 0, p), api.ErrArg)
			is(t, "Force", c.Force(0, 0, p), api.ErrArg)
		}
		reads(t, c, 0, 0, blank(g))
		is(t, "Program", c.Program(0, 0, raw), api.OK)
		reads(t, c, 0, 0, raw)
	}
}

// P7.2 and R1: of several errors the first one: ErrDown, then ErrArg, then ErrOrder, then that of a weak block.
func TestFirstError(t *testing.T) {
	g := small()
	c := made(t, g)
	raw := of(g, 1)
	c.Weak(0)
	is(t, "Program: weak", c.Program(0, 0, raw), api.ErrFail)
	is(t, "Program: order", c.Program(0, 1, raw), api.ErrOrder)
	is(t, "Program: short", c.Program(0, 1, raw[1:]), api.ErrArg)
	is(t, "Program: no page", c.Program(0, 4, raw), api.ErrArg)
	is(t, "Erase: weak", c.Erase(0), api.ErrFail)
	is(t, "Burn", c.Burn(9), api.OK)
	is(t, "Burn: back", c.Burn(8), api.ErrFuse)
	is(t, "Burn: above", c.Burn(65), api.ErrArg)
	c.Off()
	is(t, "Program: down", c.Program(0, 0, raw), api.ErrDown)
	is(t, "Program: down, order", c.Program(0, 1, raw), api.ErrDown)
	is(t, "Program: down, short", c.Program(7, 7, nil), api.ErrDown)
	is(t, "Erase: down", c.Erase(0), api.ErrDown)
	is(t, "Erase: down, none", c.Erase(-1), api.ErrDown)
	is(t, "Mark: down", c.Mark(0), api.ErrDown)
	is(t, "Mark: down, none", c.Mark(3), api.ErrDown)
	is(t, "Burn: down", c.Burn(10), api.ErrDown)
	is(t, "Burn: down, back", c.Burn(8), api.ErrDown)
	is(t, "Burn: down, above", c.Burn(65), api.ErrDown)
	for _, block := range []int{0, 3, -1} {
		if p, err := c.Read(block, 0); len(p) != 0 || err != api.ErrDown {
			t.Fatalf("Read without power = % x, %d", p, err)
		}
	}
	c.On()
	fused(t, c, 9)
	reads(t, c, 0, 0, blank(g))
	if c.Bad(0) {
		t.Fatal("a mark was made without power")
	}
}

// P7.2 and P7.3: a weak block fails in Program and Erase, and nothing changes; it is marked like any other.
func TestWeak(t *testing.T) {
	g := small()
	c := made(t, g)
	want := of(g, 3)
	is(t, "Program", c.Program(1, 0, want), api.OK)
	c.Flip(1, 0, []int{8})
	want[1] ^= 1
	c.Weak(1)
	c.Weak(1)
	for range 3 {
		is(t, "Program", c.Program(1, 1, of(g, 5)), api.ErrFail)
		is(t, "Erase", c.Erase(1), api.ErrFail)
		reads(t, c, 1, 0, want)
		reads(t, c, 1, 1, blank(g))
	}
	is(t, "next", c.Program(1, 0, of(g, 5)), api.ErrOrder)
	is(t, "next", c.Program(1, 2, of(g, 5)), api.ErrOrder)
	c.Off()
	c.On()
	is(t, "Program", c.Program(1, 1, of(g, 5)), api.ErrFail)
	is(t, "other", c.Program(0, 0, of(g, 5)), api.OK)
	is(t, "other", c.Erase(2), api.OK)
	if c.Bad(1) {
		t.Fatal("weak, and marked by nobody")
	}
	is(t, "Mark", c.Mark(1), api.OK)
	if !c.Bad(1) {
		t.Fatal("not marked")
	}
	is(t, "Force", c.Force(1, 1, of(g, 6)), api.OK)
	reads(t, c, 1, 1, of(g, 6))
}

// P7.5: Weak needs no power, and neither do Flip, Arm, Force and Geometry.
func TestWithoutPower(t *testing.T) {
	g := small()
	c := made(t, g, 2)
	is(t, "Burn", c.Burn(64), api.OK)
	c.Off()
	c.Weak(0)
	c.Flip(1, 0, []int{3})
	is(t, "Force", c.Force(2, 1, of(g, 1)), api.OK)
	c.Arm(2, 1)
	if c.Bad(2) || c.Bad(0) || c.Up() || c.Geometry() != g {
		t.Fatal("without power", c.Bad(2), c.Up(), c.Geometry())
	}
	fused(t, c, 0)
	c.On()
	if !c.Bad(2) {
		t.Fatal("the mark went")
	}
	fused(t, c, 64)
	reads(t, c, 2, 1, of(g, 1))
	wrong := blank(g)
	wrong[0] ^= 8
	reads(t, c, 1, 0, wrong)
	is(t, "weak", c.Erase(0), api.ErrFail)
	is(t, "cut", c.Erase(2), api.ErrDown)
}

// P7.3: an erased block is ff, begins at 0, and is read rightly; the others stay.
func TestErase(t *testing.T) {
	for _, g := range shapes() {
		c := made(t, g)
		last := g.Blocks - 1
		for round := range 3 {
			filled(t, c, last, round)
			is(t, "full", c.Program(last, g.Pages-1, of(g, 1)), api.ErrOrder)
			if last > 0 {
				is(t, "Force", c.Force(0, 0, of(g, round)), api.OK)
				c.Flip(0, 0, []int{0})
			}
			for page := range g.Pages {
				c.Flip(last, page, []int{page, 8 * page, 8*size(g) - 1})
			}
			is(t, "Erase", c.Erase(last), api.OK)
			for page := range g.Pages {
				reads(t, c, last, page, blank(g))
			}
			if last > 0 {
				want := of(g, round)
				want[0] ^= 1
				reads(t, c, 0, 0, want)
			}
		}
		is(t, "Erase again", c.Erase(last), api.OK)
		is(t, "Program", c.Program(last, 1, of(g, 1)), api.ErrOrder)
		is(t, "Program", c.Program(last, 0, of(g, 1)), api.OK)
		reads(t, c, last, 0, of(g, 1))
	}
}

// P7.3 and P7.7: a mark is made once and for all.
func TestMark(t *testing.T) {
	g := small()
	c := made(t, g)
	is(t, "Program", c.Program(1, 0, of(g, 1)), api.OK)
	for range 2 {
		is(t, "Mark", c.Mark(1), api.OK)
		for block := range g.Blocks {
			if c.Bad(block) != (block == 1) {
				t.Fatalf("Bad(%d) = %v", block, c.Bad(block))
			}
		}
	}
	reads(t, c, 1, 0, of(g, 1))
	is(t, "Program", c.Program(1, 1, of(g, 2)), api.OK)
	is(t, "Erase", c.Erase(1), api.OK)
	is(t, "Force", c.Force(1, 0, of(g, 2)), api.OK)
	c.Flip(1, 0, nil)
	c.Weak(1)
	c.Off()
	c.On()
	if !c.Bad(1) {
		t.Fatal("the mark went")
	}
}

// P7.3: the fuse goes up to 64, and never back.
func TestBurn(t *testing.T) {
	for from := range api.Fuses + 1 {
		for to := -2; to <= api.Fuses+2; to++ {
			c := made(t, small())
			is(t, "Burn", c.Burn(from), api.OK)
			fused(t, c, from)
			want, fuse := api.OK, to
			if to > api.Fuses {
				want, fuse = api.ErrArg, from
			} else if to < from {
				want, fuse = api.ErrFuse, from
			}
			is(t, "Burn", c.Burn(to), want)
			fused(t, c, fuse)
		}
	}
	c := made(t, small())
	is(t, "Burn", c.Burn(7), api.OK)
	for _, n := range outside {
		want := api.ErrArg
		if n < 0 {
			want = api.ErrFuse
		}
		is(t, "Burn", c.Burn(n), want)
		fused(t, c, 7)
	}
}

// P7.4: Program is cut at each byte.
func TestCutProgram(t *testing.T) {
	g := small()
	for _, weak := range []bool{false, true} {
		for keep := -2; keep <= size(g)+2; keep++ {
			c := made(t, g)
			raw := of(g, 7)
			is(t, "Program", c.Program(1, 0, of(g, 1)), api.OK)
			if weak {
				c.Weak(1)
			}
			c.Arm(1, keep)
			if !c.Up() {
				t.Fatal("Arm takes no power")
			}
			is(t, "cut", c.Program(1, 1, raw), api.ErrDown)
			if c.Up() {
				t.Fatal("cut, and it has power")
			}
			c.On()
			want := blank(g)
			copy(want, raw[:min(max(keep, 0), len(raw))])
			reads(t, c, 1, 0, of(g, 1))
			reads(t, c, 1, 1, want)
			reads(t, c, 1, 2, blank(g))
			is(t, "next", c.Program(1, 1, raw), api.ErrOrder)
			is(t, "next", c.Program(1, 3, raw), api.ErrOrder)
			if weak {
				is(t, "weak", c.Program(1, 2, raw), api.ErrFail)
				continue
			}
			is(t, "not armed any more", c.Program(1, 2, raw), api.OK)
			is(t, "not armed any more", c.Erase(1), api.OK)
			reads(t, c, 1, 1, blank(g))
		}
	}
}

// P7.4: numbers that are far out count as none, or as all.
func TestCutKeep(t *testing.T) {
	g := small()
	for _, keep := range outside {
		done := keep > 0
		c := made(t, g)
		c.Arm(1, keep)
		is(t, "Program", c.Program(0, 0, of(g, 1)), api.ErrDown)
		c.On()
		want := blank(g)
		if done {
			want = of(g, 1)
		}
		reads(t, c, 0, 0, want)
		is(t, "Force", c.Force(0, 3, of(g, 2)), api.OK)
		c.Arm(1, keep)
		is(t, "Erase", c.Erase(0), api.ErrDown)
		c.On()
		left := of(g, 2)
		if done {
			left = blank(g)
		}
		reads(t, c, 0, 3, left)
		c.Arm(1, keep)
		is(t, "Mark", c.Mark(2), api.ErrDown)
		c.On()
		c.Arm(1, keep)
		is(t, "Burn", c.Burn(2), api.ErrDown)
		c.On()
		if c.Bad(2) != done || (c.Fuse() == 2) != done || (c.Fuse() == 0) == done {
			t.Fatalf("keep %d: %v, %d", keep, c.Bad(2), c.Fuse())
		}
	}
}

// P7.4: Erase is cut at each page: the pages ahead are ff and read rightly, those behind are as they were, flipped bits too; next stays.
func TestCutErase(t *testing.T) {
	g := small()
	for _, weak := range []bool{false, true} {
		for programmed := range g.Pages + 1 {
			for keep := -1; keep <= g.Pages+1; keep++ {
				c := made(t, g)
				want := make([][]byte, g.Pages)
				for page := range g.Pages {
					want[page] = blank(g)
					if page < programmed {
						is(t, "Program", c.Program(2, page, of(g, page)), api.OK)
						want[page] = of(g, page)
					}
					c.Flip(2, page, []int{page})
					want[page][0] ^= 1 << page
					if page < keep {
						want[page] = blank(g)
					}
				}
				if weak {
					c.Weak(2)
				}
				c.Arm(1, keep)
				is(t, "cut", c.Erase(2), api.ErrDown)
				if c.Up() {
					t.Fatal("cut, and it has power")
				}
				c.On()
				for page, raw := range want {
					reads(t, c, 2, page, raw)
				}
				for page := range g.Pages {
					if page != programmed {
						is(t, "next", c.Program(2, page, of(g, 1)), api.ErrOrder)
					}
				}
				if weak {
					is(t, "weak", c.Erase(2), api.ErrFail)
					continue
				}
				if programmed < g.Pages {
					is(t, "next", c.Program(2, programmed, of(g, 1)), api.OK)
				}
				is(t, "Erase", c.Erase(2), api.OK)
				is(t, "Program", c.Program(2, 0, of(g, 1)), api.OK)
			}
		}
	}
}

// P7.4: Mark and Burn are done, if keep is above 0.
func TestCutMarkAndBurn(t *testing.T) {
	for keep := -2; keep <= 3; keep++ {
		for _, weak := range []bool{false, true} {
			c := made(t, small())
			if weak {
				c.Weak(1)
			}
			c.Arm(1, keep)
			is(t, "Mark", c.Mark(1), api.ErrDown)
			if c.Up() {
				t.Fatal("cut, and it has power")
			}
			c.On()
			if c.Bad(1) != (keep > 0) || c.Bad(0) {
				t.Fatalf("keep %d: Bad(1) = %v", keep, c.Bad(1))
			}
			is(t, "Burn", c.Burn(3), api.OK)
			c.Arm(1, keep)
			is(t, "Burn", c.Burn(9), api.ErrDown)
			if c.Up() {
				t.Fatal("cut, and it has power")
			}
			c.On()
			want := 3
			if keep > 0 {
				want = 9
			}
			fused(t, c, want)
			is(t, "not armed any more", c.Burn(10), api.OK)
			is(t, "not armed any more", c.Mark(0), api.OK)
		}
	}
}

// deed is one of the four, each time another one that is right, with what it answers where it is not cut.
func deed(c *chip.Chip, i int) (api.Errno, api.Errno) {
	switch i % 6 {
	case 0:
		return c.Program(0, 0, of(c.Geometry(), i)), api.OK
	case 1:
		return c.Erase(0), api.OK
	case 2:
		return c.Mark(i % 3), api.OK
	case 3:
		return c.Burn(i), api.OK
	case 4:
		return c.Erase(1), api.ErrFail
	}
	return c.Program(1, 0, of(c.Geometry(), i)), api.ErrFail
}

// P7.4: the n-th deed from now on is cut, that one alone; what is no deed does not count: a call with an error ahead, a reading, a Force, and power that is taken and given.
func TestArm(t *testing.T) {
	for n := -3; n <= 20; n++ {
		c := made(t, small())
		c.Weak(1)
		c.Arm(n, 0)
		for i := range 21 {
			idle(t, c)
			got, want := deed(c, i)
			if i+1 == n {
				want = api.ErrDown
			}
			is(t, "deed", got, want)
			if c.Up() != (i+1 != n) {
				t.Fatalf("Arm(%d, ..), deed %d: Up() = %v", n, i+1, c.Up())
			}
			c.On()
			if i+1 == n {
				// It left what a cut one leaves, which the deeds to come are not made for.
				is(t, "not armed any more", c.Erase(0), api.OK)
				break
			}
		}
	}
}

// idle does much that is no deed.
func idle(t *testing.T, c *chip.Chip) {
	t.Helper()
	g := c.Geometry()
	is(t, "Program", c.Program(0, 3, of(g, 1)), api.ErrOrder)
	is(t, "Program", c.Program(0, 4, of(g, 1)), api.ErrArg)
	is(t, "Program", c.Program(1, 0, nil), api.ErrArg)
	is(t, "Erase", c.Erase(3), api.ErrArg)
	is(t, "Mark", c.Mark(-1), api.ErrArg)
	is(t, "Burn", c.Burn(65), api.ErrArg)
	is(t, "Burn", c.Burn(-1), api.ErrFuse)
	is(t, "Force", c.Force(2, 0, of(g, 1)), api.OK)
	reads(t, c, 2, 0, of(g, 1))
	c.Flip(2, 1, []int{1})
	c.Weak(1)
	c.Off()
	is(t, "Erase", c.Erase(0), api.ErrDown)
	is(t, "Burn", c.Burn(64), api.ErrDown)
	c.On()
}

// P7.4: an Arm stands for the one before it; with n below 1 there is none.
func TestArmAgain(t *testing.T) {
	c := made(t, small())
	c.Arm(1, 1)
	for _, n := range []int{0, -1, math.MinInt} {
		c.Arm(1, 1)
		c.Arm(n, 1)
		is(t, "Burn", c.Burn(1), api.OK)
	}
	c.Arm(1, 1)
	c.Arm(2, 0)
	is(t, "Burn", c.Burn(2), api.OK)
	is(t, "Burn", c.Burn(3), api.ErrDown)
	c.On()
	fused(t, c, 2)
	c.Arm(2, 0)
	is(t, "Burn", c.Burn(3), api.OK)
	c.Arm(2, 1)
	is(t, "Burn", c.Burn(4), api.OK)
	is(t, "Burn", c.Burn(5), api.ErrDown)
	c.On()
	fused(t, c, 5)
	c.Arm(math.MaxInt, 1)
	for range 100 {
		is(t, "Burn", c.Burn(6), api.OK)
	}
}

// P7.4: Arm may be called between the cut and On: it counts from then on.
func TestArmDown(t *testing.T) {
	c := made(t, small())
	c.Arm(1, 0)
	is(t, "Burn", c.Burn(1), api.ErrDown)
	c.Arm(2, 0)
	is(t, "Burn", c.Burn(1), api.ErrDown)
	c.On()
	is(t, "Burn", c.Burn(1), api.OK)
	is(t, "Burn", c.Burn(2), api.ErrDown)
	c.On()
	fused(t, c, 1)
}

// P7.5: just the places are read wrongly, each once, whatever else stands there.
func TestFlip(t *testing.T) {
	for _, g := range shapes() {
		c := made(t, g)
		all := 8 * size(g)
		is(t, "Program", c.Program(0, 0, of(g, 1)), api.OK)
		for page, raw := range [][]byte{of(g, 1), blank(g)} {
			for _, place := range []int{0, 1, 7, 8, 9, all / 2, all - 8, all - 1} {
				want, err := bits.Turn(raw, []int{place})
				is(t, "Turn", err, api.OK)
				c.Flip(0, page, []int{place})
				reads(t, c, 0, page, want)
				c.Flip(0, page, []int{place, place})
				reads(t, c, 0, page, want)
				c.Flip(0, page, append([]int{all, all + 1, place, -8, place, all + 8}, outside[9:]...))
				reads(t, c, 0, page, want)
			}
			two, _ := bits.Turn(raw, []int{3, all - 1})
			c.Flip(0, page, []int{all - 1, 3})
			reads(t, c, 0, page, two)
			for _, none := range [][]int{nil, {}, {-1}, {all}, {all, -1, math.MinInt, math.MaxInt}} {
				c.Flip(0, page, []int{5})
				c.Flip(0, page, none)
				reads(t, c, 0, page, raw)
			}
		}
		if g.Blocks > 1 {
			reads(t, c, 1, 0, blank(g))
		}
	}
}

// P7.5: all bits of a page may be read wrongly, and those of one page are no other's.
func TestFlipAll(t *testing.T) {
	g := small()
	c := made(t, g)
	raw := of(g, 4)
	is(t, "Program", c.Program(1, 0, raw), api.OK)
	var all []int
	for i := range 8 * size(g) {
		all = append(all, i)
	}
	c.Flip(1, 0, all)
	want := slices.Clone(raw)
	for i := range want {
		want[i] ^= 0xff
	}
	reads(t, c, 1, 0, want)
	reads(t, c, 1, 1, blank(g))
	reads(t, c, 0, 0, blank(g))
	c.Flip(1, 0, nil)
	reads(t, c, 1, 0, raw)
}

// P7.2 and P7.5: bits that are read wrongly are so of what is programmed later, too, until the block is erased.
func TestFlipAhead(t *testing.T) {
	g := small()
	c := made(t, g)
	c.Flip(0, 0, []int{0})
	c.Off()
	c.On()
	is(t, "Program", c.Program(0, 0, of(g, 1)), api.OK)
	want := of(g, 1)
	want[0] ^= 1
	reads(t, c, 0, 0, want)
	c.Flip(0, 1, []int{0})
	c.Arm(1, 1)
	is(t, "Program", c.Program(0, 1, of(g, 1)), api.ErrDown)
	c.On()
	want = blank(g)
	want[0] = of(g, 1)[0] ^ 1
	reads(t, c, 0, 1, want)
	is(t, "Erase", c.Erase(0), api.OK)
	is(t, "Program", c.Program(0, 0, of(g, 2)), api.OK)
	reads(t, c, 0, 0, of(g, 2))
}

// P7.5: Force lays a page wherever it is, read rightly; next is at least one more.
func TestForce(t *testing.T) {
	g := small()
	for programmed := range g.Pages + 1 {
		for forced := range g.Pages {
			c := made(t, g, 1)
			want := make([][]byte, g.Pages)
			for page := range g.Pages {
				want[page] = blank(g)
			}
			for page := range programmed {
				is(t, "Program", c.Program(1, page, of(g, page)), api.OK)
				want[page] = of(g, page)
			}
			for page := range g.Pages {
				c.Flip(1, page, []int{1})
				want[page][0] ^= 2
			}
			c.Arm(1, 0)
			is(t, "Force", c.Force(1, forced, of(g, 50)), api.OK)
			want[forced] = of(g, 50)
			for page, raw := range want {
				reads(t, c, 1, page, raw)
			}
			c.Arm(0, 0)
			next := max(programmed, forced+1)
			for page := range g.Pages {
				if page != next {
					is(t, "next", c.Program(1, page, of(g, 1)), api.ErrOrder)
				}
			}
			if next < g.Pages {
				is(t, "next", c.Program(1, next, of(g, 1)), api.OK)
			}
		}
	}
}

// P7.6: a Chip that is nil.
func TestNil(t *testing.T) {
	var c *chip.Chip
	g := small()
	for _, n := range append([]int{0, 1}, outside...) {
		is(t, "Program", c.Program(n, n, of(g, 1)), api.ErrNil)
		is(t, "Program", c.Program(n, n, nil), api.ErrNil)
		is(t, "Erase", c.Erase(n), api.ErrNil)
		is(t, "Mark", c.Mark(n), api.ErrNil)
		is(t, "Burn", c.Burn(n), api.ErrNil)
		is(t, "Force", c.Force(n, n, of(g, 1)), api.ErrNil)
		if p, err := c.Read(n, n); len(p) != 0 || err != api.ErrNil {
			t.Fatalf("Read = % x, %d", p, err)
		}
		c.Arm(n, n)
		c.Weak(n)
		c.Flip(n, n, []int{n})
		c.Flip(n, n, nil)
		c.On()
		if c.Bad(n) || c.Up() || c.Fuse() != 0 || c.Geometry() != (api.Geometry{}) {
			t.Fatal("a chip that is nil answers")
		}
		c.Off()
	}
}

// P7.7: a page is programmed at most once between two erasures, whatever is cut, weak or without power meanwhile.
func TestOnce(t *testing.T) {
	source := rand.New(rand.NewSource(702))
	g := small()
	c := made(t, g)
	programmed := map[[2]int]int{}
	fuse, marked := 0, map[int]int{}
	for step := range 20000 {
		block, page := source.Intn(g.Blocks), source.Intn(g.Pages)
		switch source.Intn(12) {
		case 0:
			if c.Erase(block) == api.OK {
				for p := range g.Pages {
					delete(programmed, [2]int{block, p})
				}
			}
		case 1:
			c.Arm(source.Intn(5), source.Intn(24)-2)
		case 2:
			c.Off()
		case 3:
			c.Burn(source.Intn(1 + step/200))
		case 4:
			if source.Intn(500) == 0 && c.Mark(block) == api.OK {
				marked[block] = 1
			}
		case 5:
			if step > 15000 && source.Intn(500) == 0 {
				c.Weak(block)
			}
		default:
			if c.Program(block, page, of(g, step)) == api.OK {
				programmed[[2]int{block, page}]++
			}
		}
		c.On()
		if n := c.Fuse(); n < fuse || n > api.Fuses {
			t.Fatalf("step %d: the fuse went from %d to %d", step, fuse, n)
		}
		fuse = c.Fuse()
		for b := range marked {
			if !c.Bad(b) {
				t.Fatalf("step %d: the mark of %d went", step, b)
			}
		}
		if n := programmed[[2]int{block, page}]; n > 1 {
			t.Fatalf("step %d: page %d of %d was programmed %d times", step, page, block, n)
		}
	}
}

// plain is a chip as the chapter says it, all written out.
type plain struct {
	g        api.Geometry
	pages    [][][]byte
	wrong    [][][]bool
	next     []int
	marked   []bool
	weak     []bool
	fuse     int
	up       bool
	in, keep int
}

func newPlain(g api.Geometry, bad []int) *plain {
	p := &plain{g: g, pages: make([][][]byte, g.Blocks), wrong: make([][][]bool, g.Blocks), next: make([]int, g.Blocks), marked: make([]bool, g.Blocks), weak: make([]bool, g.Blocks), up: true}
	for b := range g.Blocks {
		for range g.Pages {
			p.pages[b] = append(p.pages[b], blank(g))
			p.wrong[b] = append(p.wrong[b], make([]bool, 8*size(g)))
		}
	}
	for _, b := range bad {
		p.marked[b] = true
	}
	return p
}

func (p *plain) no(block, page int) bool {
	return block < 0 || block >= p.g.Blocks || page < 0 || page >= p.g.Pages
}

func (p *plain) goes() bool {
	if p.in < 1 {
		return false
	}
	p.in--
	p.up = p.in > 0
	return p.in == 0
}

func (p *plain) program(block, page int, raw []byte) api.Errno {
	switch {
	case !p.up:
		return api.ErrDown
	case p.no(block, page) || len(raw) != size(p.g):
		return api.ErrArg
	case page != p.next[block]:
		return api.ErrOrder
	case p.goes():
		for i := range raw {
			p.pages[block][page][i] = 0xff
			if i < p.keep {
				p.pages[block][page][i] = raw[i]
			}
		}
		p.next[block]++
		return api.ErrDown
	case p.weak[block]:
		return api.ErrFail
	}
	copy(p.pages[block][page], raw)
	p.next[block]++
	return api.OK
}

func (p *plain) erase(block int) api.Errno {
	keep := p.g.Pages
	var answer api.Errno
	switch {
	case !p.up:
		return api.ErrDown
	case p.no(block, 0):
		return api.ErrArg
	case p.goes():
		keep, answer = p.keep, api.ErrDown
	case p.weak[block]:
		return api.ErrFail
	default:
		p.next[block] = 0
	}
	for page := range p.g.Pages {
		if page < keep {
			p.pages[block][page] = blank(p.g)
			clear(p.wrong[block][page])
		}
	}
	return answer
}

func (p *plain) mark(block int) api.Errno {
	switch {
	case !p.up:
		return api.ErrDown
	case p.no(block, 0):
		return api.ErrArg
	case p.goes():
		p.marked[block] = p.marked[block] || p.keep > 0
		return api.ErrDown
	}
	p.marked[block] = true
	return api.OK
}

func (p *plain) burn(n int) api.Errno {
	switch {
	case !p.up:
		return api.ErrDown
	case n > 64:
		return api.ErrArg
	case n < p.fuse:
		return api.ErrFuse
	case p.goes():
		if p.keep > 0 {
			p.fuse = n
		}
		return api.ErrDown
	}
	p.fuse = n
	return api.OK
}

func (p *plain) flip(block, page int, places []int) {
	if p.no(block, page) {
		return
	}
	clear(p.wrong[block][page])
	for _, i := range places {
		if i >= 0 && i < 8*size(p.g) {
			p.wrong[block][page][i] = true
		}
	}
}

func (p *plain) force(block, page int, raw []byte) api.Errno {
	if p.no(block, page) || len(raw) != size(p.g) {
		return api.ErrArg
	}
	copy(p.pages[block][page], raw)
	clear(p.wrong[block][page])
	p.next[block] = max(p.next[block], page+1)
	return api.OK
}

func (p *plain) read(block, page int) ([]byte, api.Errno) {
	switch {
	case !p.up:
		return nil, api.ErrDown
	case p.no(block, page):
		return nil, api.ErrArg
	}
	out := slices.Clone(p.pages[block][page])
	for i, wrong := range p.wrong[block][page] {
		if wrong {
			out[i/8] ^= 1 << (i % 8)
		}
	}
	return out, api.OK
}

// alike holds all that the two tell against each other.
func alike(t *testing.T, c *chip.Chip, p *plain, step int) {
	t.Helper()
	fuse := 0
	if p.up {
		fuse = p.fuse
	}
	if c.Up() != p.up || c.Fuse() != fuse || c.Geometry() != p.g {
		t.Fatalf("step %d: %v, %d, %v, want %v, %d", step, c.Up(), c.Fuse(), c.Geometry(), p.up, fuse)
	}
	for block := -1; block <= p.g.Blocks; block++ {
		if want := p.up && !p.no(block, 0) && p.marked[block]; c.Bad(block) != want {
			t.Fatalf("step %d: Bad(%d) = %v", step, block, c.Bad(block))
		}
		for page := -1; page <= p.g.Pages; page++ {
			got, err := c.Read(block, page)
			want, fault := p.read(block, page)
			if err != fault || !bytes.Equal(got, want) {
				t.Fatalf("step %d: Read(%d, %d) = % x, %d, want % x, %d", step, block, page, got, err, want, fault)
			}
		}
	}
}

// random does the same with both, whatever it is.
func random(source *rand.Rand, c *chip.Chip, p *plain) (api.Errno, api.Errno) {
	g := p.g
	block, page := source.Intn(g.Blocks+2)-1, source.Intn(g.Pages+2)-1
	if source.Intn(2) == 0 && !p.no(block, 0) {
		page = p.next[block]
	}
	raw := some(source, g)
	if source.Intn(20) == 0 {
		raw = raw[source.Intn(3):]
	}
	switch source.Intn(16) {
	case 0:
		return c.Erase(block), p.erase(block)
	case 1:
		if source.Intn(4) == 0 {
			return c.Mark(block), p.mark(block)
		}
	case 2:
		n := source.Intn(p.fuse+4) - 1
		return c.Burn(n), p.burn(n)
	case 3:
		c.Off()
		p.up = false
	case 4, 5, 6:
		c.On()
		p.up = true
	case 7:
		n, keep := source.Intn(6)-1, source.Intn(size(g)+4)-2
		c.Arm(n, keep)
		p.in, p.keep = n, keep
	case 8:
		if source.Intn(10) == 0 {
			c.Weak(block)
			if !p.no(block, 0) {
				p.weak[block] = true
			}
		}
	case 9:
		places := make([]int, source.Intn(4))
		for i := range places {
			places[i] = source.Intn(8*size(g)+20) - 10
		}
		c.Flip(block, page, places)
		p.flip(block, page, places)
	case 10:
		return c.Force(block, page, raw), p.force(block, page, raw)
	default:
		return c.Program(block, page, raw), p.program(block, page, raw)
	}
	return api.OK, api.OK
}

// P7.1 to P7.7: long rows of calls come out as the chapter says them.
func TestAgainstPlain(t *testing.T) {
	for seed := range int64(60) {
		source := rand.New(rand.NewSource(7000 + seed))
		g := shape(1+source.Intn(4), 2+source.Intn(4), 1+source.Intn(2), 16, 1+source.Intn(3))
		bad := []int{source.Intn(g.Blocks)}
		c, p := made(t, g, bad...), newPlain(g, bad)
		for step := range 400 {
			got, want := random(source, c, p)
			if got != want {
				t.Fatalf("seed %d, step %d: %d, want %d", seed, step, got, want)
			}
			alike(t, c, p, step)
		}
	}
}

// P7.7 and P6.4: a page that was packed, and whose programming was cut ahead of its last byte, is torn or blank; cut behind it, it is read.
func TestCutPacked(t *testing.T) {
	g := shape(1, 2, 2, 16, 2)
	data := []byte("thirty-two bytes, which is room.")
	raw, err := ecc.Pack(g, data)
	is(t, "Pack", err, api.OK)
	for keep := range len(raw) + 1 {
		c := made(t, g)
		c.Arm(1, keep)
		is(t, "Program", c.Program(0, 0, raw), api.ErrDown)
		c.On()
		page, err := c.Read(0, 0)
		is(t, "Read", err, api.OK)
		got, n, err := ecc.Read(g, page)
		if keep < len(raw) {
			if len(got) != 0 || n != 0 || (err != api.ErrTorn && err != api.ErrBlank) {
				t.Fatalf("keep %d: % x, %d, %d", keep, got, n, err)
			}
			continue
		}
		if !bytes.Equal(got, data) || n != 0 || err != api.OK {
			t.Fatalf("keep %d: % x, %d, %d", keep, got, n, err)
		}
	}
}

// The chapter's examples.
func TestExamples(t *testing.T) {
	g := shape(2, 2, 1, 16, 1)
	c := made(t, g, 1)
	raw := of(g, 5)
	if c.Bad(0) || !c.Bad(1) {
		t.Fatal(c.Bad(0), c.Bad(1))
	}
	is(t, "Program(0, 1, ..)", c.Program(0, 1, raw), api.ErrOrder)
	c.Arm(1, 2)
	is(t, "Program(0, 0, raw)", c.Program(0, 0, raw), api.ErrDown)
	c.On()
	want := blank(g)
	copy(want, raw[:2])
	reads(t, c, 0, 0, want)
	is(t, "Burn(3)", c.Burn(3), api.OK)
	is(t, "Burn(2)", c.Burn(2), api.ErrFuse)
	fused(t, c, 3)
}

// roomy gives the same list in a larger array, and that array, so that a test sees whether the spare room was written into.
func roomy[E byte | int](p []E) (front []E, whole []E) {
	whole = make([]E, len(p)+64)
	for i := range whole {
		whole[i] = 77
	}
	copy(whole, p)
	return whole[:len(p)], whole
}

// scribble writes into all of it, the spare room too.
func scribble[E byte | int](p []E) {
	p = p[:cap(p)]
	for i := range p {
		p[i] ^= 127
	}
}

// R2: what is handed in stays as it is, its spare room too, and is not kept.
func TestMemoryIn(t *testing.T) {
	g := small()
	bad, badWhole := roomy([]int{2, 0, 2})
	before := slices.Clone(badWhole)
	c := made(t, g, bad...)
	raw, whole := roomy(of(g, 1))
	rawBefore := slices.Clone(whole)
	is(t, "Program", c.Program(0, 0, raw), api.OK)
	is(t, "Force", c.Force(0, 1, raw), api.OK)
	is(t, "Program", c.Program(0, 1, raw), api.ErrOrder)
	c.Arm(1, 30)
	is(t, "Program", c.Program(0, 2, raw), api.ErrDown)
	c.On()
	places, placesWhole := roomy([]int{9, 0, 9, 999, 0, -1})
	placesBefore := slices.Clone(placesWhole)
	c.Flip(1, 0, places)
	if !slices.Equal(badWhole, before) || !bytes.Equal(whole, rawBefore) || !slices.Equal(placesWhole, placesBefore) {
		t.Fatal("an argument, or its spare room, was written into")
	}
	scribble(badWhole)
	scribble(whole)
	scribble(placesWhole)
	for page := range 3 {
		reads(t, c, 0, page, of(g, 1))
	}
	want := blank(g)
	want[0], want[1] = 0xfe, 0xfd
	reads(t, c, 1, 0, want)
	if !c.Bad(0) || c.Bad(1) || !c.Bad(2) {
		t.Fatal("bad was kept")
	}
}

// R2: what comes out is new memory each time.
func TestMemoryOut(t *testing.T) {
	g := small()
	c := made(t, g)
	is(t, "Program", c.Program(0, 0, of(g, 1)), api.OK)
	is(t, "Program", c.Program(0, 1, of(g, 2)), api.OK)
	c.Flip(0, 1, []int{0})
	wrong := of(g, 2)
	wrong[0] ^= 1
	for page, want := range [][]byte{of(g, 1), wrong, blank(g)} {
		one, _ := c.Read(0, page)
		two, _ := c.Read(0, page)
		scribble(one)
		if !bytes.Equal(two, want) {
			t.Fatalf("two readings of page %d share memory", page)
		}
		reads(t, c, 0, page, want)
	}
	reads(t, c, 1, 0, blank(g))
}

// R2: one chip is not another.
func TestTwoChips(t *testing.T) {
	g := small()
	a, b := made(t, g), made(t, g, 1)
	is(t, "Program", a.Program(0, 0, of(g, 1)), api.OK)
	is(t, "Burn", a.Burn(4), api.OK)
	is(t, "Mark", a.Mark(2), api.OK)
	a.Flip(0, 1, []int{1})
	a.Weak(0)
	a.Arm(1, 1)
	a.Off()
	reads(t, b, 0, 0, blank(g))
	reads(t, b, 0, 1, blank(g))
	fused(t, b, 0)
	if b.Bad(2) || !b.Bad(1) || !b.Up() {
		t.Fatal("one chip's deeds are another's")
	}
	is(t, "Program", b.Program(0, 0, of(g, 2)), api.OK)
	is(t, "Erase", b.Erase(0), api.OK)
}
