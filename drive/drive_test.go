package drive_test

import (
	"bytes"
	"math"
	"math/rand"
	"slices"
	"testing"

	"casemate/api"
	"casemate/chip"
	"casemate/drive"
	"casemate/ecc"
)

// Numbers that are no block, no page and no number of pages, of any chip.
var outside = []int{-1, -2, -64, -256, 256, 257, 1 << 31, 1 << 32, 1<<32 + 1, 1 << 60, 1 << 61, 1 << 62, math.MinInt, math.MinInt + 1, math.MaxInt, math.MaxInt - 1, math.MinInt32, math.MaxInt32}

// shape is a geometry of these numbers.
func shape(blocks, pages, sectors, size, flips int) api.Geometry {
	return api.Geometry{Blocks: blocks, Pages: pages, Sectors: sectors, Bytes: size, Flips: flips}
}

// small has pages of 16 data bytes, 19 raw ones.
func small() api.Geometry { return shape(3, 4, 1, 16, 1) }

// shapes are geometries of unlike chips: the least and the greatest of each number among them.
func shapes() []api.Geometry {
	return []api.Geometry{small(), shape(1, 2, 1, 16, 1), shape(3, 2, 8, 512, 8), shape(256, 2, 4, 4, 8), shape(1, 64, 1, 512, 3), shape(5, 7, 3, 20, 2)}
}

// room is how many data bytes a page has.
func room(g api.Geometry) int { return g.Sectors * g.Bytes }

// long is how many raw bytes a sector has.
func long(g api.Geometry) int { return g.Bytes + (13*g.Flips+7)/8 }

// size is how many raw bytes a page has.
func size(g api.Geometry) int { return g.Sectors*long(g) + 1 }

// blank is an erased page.
func blank(g api.Geometry) []byte { return bytes.Repeat([]byte{0xff}, size(g)) }

// of makes a page's data, unlike for unlike n.
func of(g api.Geometry, n int) []byte {
	p := make([]byte, room(g))
	for i := range p {
		p[i] = byte(37*n + 11*i + i/251)
	}
	return p
}

// some makes a page's data by chance.
func some(source *rand.Rand, g api.Geometry) []byte {
	p := make([]byte, room(g))
	source.Read(p)
	return p
}

// made is a chip and its drive, where no error may come.
func made(t *testing.T, g api.Geometry, bad ...int) (*chip.Chip, *drive.Drive) {
	t.Helper()
	c, err := chip.New(g, bad)
	is(t, "chip.New", err, api.OK)
	d, err := drive.New(c)
	if d == nil || err != api.OK {
		t.Fatalf("New = %v, %d", d, err)
	}
	return c, d
}

// is holds an error against the one that is asked for.
func is(t *testing.T, name string, got, want api.Errno) {
	t.Helper()
	if got != want {
		t.Fatalf("%s = %d, want %d", name, got, want)
	}
}

// reads fails if Read does not tell just this.
func reads(t *testing.T, d *drive.Drive, block, page int, want []byte, flips int) {
	t.Helper()
	got, n, err := d.Read(block, page)
	if !bytes.Equal(got, want) || n != flips || err != api.OK {
		t.Fatalf("Read(%d, %d) = % x, %d, %d; want % x, %d", block, page, got, n, err, want, flips)
	}
}

// unread fails if Read does not answer this error, and nothing beside it.
func unread(t *testing.T, d *drive.Drive, block, page int, want api.Errno) {
	t.Helper()
	got, n, err := d.Read(block, page)
	if len(got) != 0 || n != 0 || err != want {
		t.Fatalf("Read(%d, %d) = % x, %d, %d; want the error %d alone", block, page, got, n, err, want)
	}
}

// whole fails if Whole does not answer this.
func whole(t *testing.T, d *drive.Drive, block, pages int, want bool) {
	t.Helper()
	got, err := d.Whole(block, pages)
	if got != want || err != api.OK {
		t.Fatalf("Whole(%d, %d) = %v, %d; want %v", block, pages, got, err, want)
	}
}

// unasked fails if Whole does not answer this error, and false beside it.
func unasked(t *testing.T, d *drive.Drive, block, pages int, want api.Errno) {
	t.Helper()
	got, err := d.Whole(block, pages)
	if got || err != want {
		t.Fatalf("Whole(%d, %d) = %v, %d; want the error %d alone", block, pages, got, err, want)
	}
}

// good fails if other blocks than these are told.
func good(t *testing.T, d *drive.Drive, want ...int) {
	t.Helper()
	if got := d.Good(); !slices.Equal(got, want) {
		t.Fatalf("Good() = %v, want %v", got, want)
	}
}

// holds fails if the chip's page is another one than these raw bytes.
func holds(t *testing.T, c *chip.Chip, block, page int, want []byte) {
	t.Helper()
	got, err := c.Read(block, page)
	if err != api.OK || !bytes.Equal(got, want) {
		t.Fatalf("the chip's Read(%d, %d) = % x, %d; want % x", block, page, got, err, want)
	}
}

// packed is a page's raw bytes.
func packed(t *testing.T, g api.Geometry, data []byte) []byte {
	t.Helper()
	raw, err := ecc.Pack(g, data)
	is(t, "Pack", err, api.OK)
	return raw
}

// snapshot is all that a chip with power tells.
func snapshot(t *testing.T, c *chip.Chip) []byte {
	t.Helper()
	g := c.Geometry()
	out := []byte{byte(c.Fuse())}
	for block := range g.Blocks {
		if c.Bad(block) {
			out = append(out, 'b')
		} else {
			out = append(out, 'g')
		}
		for page := range g.Pages {
			raw, err := c.Read(block, page)
			is(t, "the chip's Read", err, api.OK)
			out = append(out, raw...)
		}
	}
	return out
}

// all are the blocks of a chip but these.
func all(g api.Geometry, but ...int) []int {
	var out []int
	for block := range g.Blocks {
		if !slices.Contains(but, block) {
			out = append(out, block)
		}
	}
	return out
}

// beside are numbers that are not 0 to most.
func beside(most int) []int { return append([]int{most + 1, most + 2}, outside...) }

// lengths are data that no page of the chip takes.
func lengths(g api.Geometry) [][]byte {
	n := room(g)
	return [][]byte{nil, {}, make([]byte, 1), make([]byte, n-1), make([]byte, n-4), make([]byte, n+1), make([]byte, 2*n), make([]byte, size(g))}
}

// The chapter's examples.
func TestExamples(t *testing.T) {
	if d, err := drive.New(nil); d != nil || err != api.ErrNil {
		t.Fatalf("New(nil) = %v, %d", d, err)
	}
	c, d := made(t, small())
	data := []byte("sixteen bytes, 0")
	is(t, "Write", d.Write(0, 0, data), api.OK)
	reads(t, d, 0, 0, data, 0)
	c.Weak(1)
	is(t, "Write", d.Write(1, 0, data), api.ErrFail)
	good(t, d, 0, 2)
	is(t, "Write", d.Write(1, 0, data), api.ErrBad)
}

// P8.1: a drive of each chip, whatever its power is.
func TestNew(t *testing.T) {
	for _, g := range shapes() {
		c, d := made(t, g)
		if d.Geometry() != g {
			t.Fatalf("Geometry() = %v, want %v", d.Geometry(), g)
		}
		good(t, d, all(g)...)
		c.Off()
		off, err := drive.New(c)
		if off == nil || err != api.OK || off.Geometry() != g || d.Geometry() != g {
			t.Fatalf("without power: New = %v, %d", off, err)
		}
		good(t, off)
		c.On()
		good(t, off, all(g)...)
	}
}

// P8.1: New changes nothing of the chip, and makes a drive that is another one each time.
func TestNewLeaves(t *testing.T) {
	g := small()
	c, d := made(t, g, 2)
	is(t, "Write", d.Write(0, 0, of(g, 1)), api.OK)
	is(t, "Burn", c.Burn(3), api.OK)
	ahead := snapshot(t, c)
	other, err := drive.New(c)
	is(t, "New", err, api.OK)
	if !bytes.Equal(ahead, snapshot(t, c)) {
		t.Fatal("New changed the chip")
	}
	reads(t, other, 0, 0, of(g, 1), 0)
	is(t, "Write", other.Write(0, 1, of(g, 2)), api.OK)
	reads(t, d, 0, 1, of(g, 2), 0)
}

// P8.1: the blocks that are not marked, rising; nothing without power.
func TestGood(t *testing.T) {
	g := shape(256, 2, 1, 16, 1)
	for _, bad := range [][]int{nil, {0}, {255}, {0, 255}, {7, 3, 7, 7, 0, 254}, all(g, 9), all(g)} {
		c, d := made(t, g, bad...)
		good(t, d, all(g, bad...)...)
		c.Off()
		good(t, d)
		c.On()
		good(t, d, all(g, bad...)...)
	}
}

// P8.1: a mark counts, whoever set it; a weak block is good till it failed.
func TestGoodLater(t *testing.T) {
	g := shape(6, 2, 1, 16, 1)
	c, d := made(t, g, 4)
	is(t, "Mark", c.Mark(0), api.OK)
	good(t, d, 1, 2, 3, 5)
	c.Weak(3)
	good(t, d, 1, 2, 3, 5)
	is(t, "the chip's Erase", c.Erase(3), api.ErrFail)
	good(t, d, 1, 2, 3, 5)
	is(t, "Erase", d.Erase(3), api.ErrFail)
	good(t, d, 1, 2, 5)
	is(t, "the chip's Erase", c.Erase(0), api.OK)
	good(t, d, 1, 2, 5)
}

// P8.1 and R1: a Drive that is nil.
func TestNil(t *testing.T) {
	var d *drive.Drive
	if d.Geometry() != (api.Geometry{}) || len(d.Good()) != 0 {
		t.Fatalf("a drive that is nil: %v, %v", d.Geometry(), d.Good())
	}
	for _, n := range append([]int{0, 1, 2}, outside...) {
		unread(t, d, n, n, api.ErrNil)
		unread(t, d, 0, n, api.ErrNil)
		is(t, "Write", d.Write(n, n, nil), api.ErrNil)
		is(t, "Write", d.Write(n, 0, of(small(), 1)), api.ErrNil)
		is(t, "Erase", d.Erase(n), api.ErrNil)
		unasked(t, d, n, n, api.ErrNil)
		unasked(t, d, 0, n, api.ErrNil)
	}
}

// P8.2 to P8.4: without power that is the answer, whatever else is wrong, and nothing is changed.
func TestDown(t *testing.T) {
	for _, g := range shapes() {
		c, d := made(t, g, g.Blocks-1)
		ahead := snapshot(t, c)
		c.Off()
		for _, block := range append([]int{0, g.Blocks - 1, g.Blocks}, outside...) {
			is(t, "Erase", d.Erase(block), api.ErrDown)
			for _, page := range append([]int{0, g.Pages - 1, g.Pages, g.Pages + 1}, outside...) {
				unread(t, d, block, page, api.ErrDown)
				unasked(t, d, block, page, api.ErrDown)
				is(t, "Write", d.Write(block, page, of(g, 1)), api.ErrDown)
				is(t, "Write", d.Write(block, page, nil), api.ErrDown)
			}
		}
		c.On()
		if !bytes.Equal(ahead, snapshot(t, c)) {
			t.Fatal("what was answered by ErrDown changed the chip")
		}
	}
}

// P8.2 to P8.4: no such block.
func TestNoSuchBlock(t *testing.T) {
	for _, g := range shapes() {
		c, d := made(t, g)
		c.Arm(1, 1)
		for _, block := range beside(g.Blocks - 1) {
			is(t, "Erase", d.Erase(block), api.ErrArg)
			for _, page := range append([]int{0, 1, g.Pages}, outside...) {
				unread(t, d, block, page, api.ErrArg)
				unasked(t, d, block, page, api.ErrArg)
				is(t, "Write", d.Write(block, page, of(g, 1)), api.ErrArg)
				is(t, "Write", d.Write(block, page, nil), api.ErrArg)
			}
		}
		if !c.Up() {
			t.Fatal("what was answered by ErrArg was a deed")
		}
	}
}

// P8.2 to P8.4: no such page, no such number of pages, data of another length; of a marked block, too, as ErrArg is named ahead of ErrBad.
func TestNoSuchPage(t *testing.T) {
	for _, g := range shapes() {
		c, d := made(t, g, 0)
		c.Arm(1, 1)
		for block := range min(g.Blocks, 2) {
			for _, page := range beside(g.Pages - 1) {
				unread(t, d, block, page, api.ErrArg)
				is(t, "Write", d.Write(block, page, of(g, 1)), api.ErrArg)
				is(t, "Write", d.Write(block, page, nil), api.ErrArg)
			}
			for _, pages := range beside(g.Pages) {
				unasked(t, d, block, pages, api.ErrArg)
			}
			for page := range g.Pages {
				for _, data := range lengths(g) {
					is(t, "Write", d.Write(block, page, data), api.ErrArg)
				}
			}
		}
		if !c.Up() {
			t.Fatal("what was answered by ErrArg was a deed")
		}
		good(t, d, all(g, 0)...)
	}
}

// P8.2 to P8.4: a marked block is neither read nor written nor erased, and is not whole; what it holds stays, and no deed is done.
func TestBad(t *testing.T) {
	for _, g := range shapes() {
		c, d := made(t, g)
		is(t, "Write", d.Write(0, 0, of(g, 1)), api.OK)
		is(t, "Mark", c.Mark(0), api.OK)
		c.Weak(0)
		c.Arm(1, 1)
		for page := range g.Pages {
			unread(t, d, 0, page, api.ErrBad)
			is(t, "Write", d.Write(0, page, of(g, 2)), api.ErrBad)
		}
		for pages := range g.Pages + 1 {
			whole(t, d, 0, pages, false)
		}
		is(t, "Erase", d.Erase(0), api.ErrBad)
		if !c.Up() {
			t.Fatal("what was answered by ErrBad was a deed")
		}
		holds(t, c, 0, 0, packed(t, g, of(g, 1)))
		holds(t, c, 0, 1, blank(g))
	}
}

// P8.2, P8.3 and P8.5: what is written is read, page by page, and lies on the chip as layer 6 packs it.
func TestWrite(t *testing.T) {
	for _, g := range shapes() {
		c, d := made(t, g)
		for _, block := range []int{g.Blocks - 1, 0} {
			if block == 0 && g.Blocks == 1 {
				continue
			}
			for page := range g.Pages {
				unread(t, d, block, page, api.ErrBlank)
				is(t, "Write", d.Write(block, page, of(g, block+page)), api.OK)
				reads(t, d, block, page, of(g, block+page), 0)
				holds(t, c, block, page, packed(t, g, of(g, block+page)))
			}
			for page := range g.Pages {
				reads(t, d, block, page, of(g, block+page), 0)
			}
		}
	}
}

// P8.3: data of all kinds, of noughts and of ff as well.
func TestWriteAny(t *testing.T) {
	source := rand.New(rand.NewSource(801))
	for _, g := range shapes() {
		_, d := made(t, g)
		for _, data := range [][]byte{make([]byte, room(g)), bytes.Repeat([]byte{0xff}, room(g)), some(source, g), some(source, g)} {
			is(t, "Erase", d.Erase(0), api.OK)
			is(t, "Write", d.Write(0, 0, data), api.OK)
			reads(t, d, 0, 0, data, 0)
			whole(t, d, 0, 1, true)
		}
	}
}

// P8.3: a page out of its order is the chip's to refuse; the block is not marked by it, not even a weak one.
func TestWriteOrder(t *testing.T) {
	g := small()
	c, d := made(t, g)
	c.Weak(1)
	for next := range g.Pages {
		ahead := snapshot(t, c)
		for page := range g.Pages {
			if page != next {
				is(t, "Write", d.Write(0, page, of(g, 9)), api.ErrOrder)
			}
			if page != 0 {
				is(t, "Write", d.Write(1, page, of(g, 9)), api.ErrOrder)
			}
		}
		if !bytes.Equal(ahead, snapshot(t, c)) {
			t.Fatal("what was answered by ErrOrder changed the chip")
		}
		is(t, "Write", d.Write(0, next, of(g, next)), api.OK)
	}
	for page := range g.Pages {
		is(t, "Write", d.Write(0, page, of(g, 9)), api.ErrOrder)
		reads(t, d, 0, page, of(g, page), 0)
	}
	good(t, d, 0, 1, 2)
}

// P8.3: an erased block is blank, and is written from its first page on.
func TestErase(t *testing.T) {
	for _, g := range shapes() {
		c, d := made(t, g)
		for round := range 3 {
			for block := range min(g.Blocks, 3) {
				for page := range g.Pages {
					is(t, "Write", d.Write(block, page, of(g, round+block+page)), api.OK)
				}
			}
			c.Flip(0, 0, []int{0})
			is(t, "Erase", d.Erase(0), api.OK)
			for page := range g.Pages {
				holds(t, c, 0, page, blank(g))
				unread(t, d, 0, page, api.ErrBlank)
			}
			for block := 1; block < min(g.Blocks, 3); block++ {
				for page := range g.Pages {
					reads(t, d, block, page, of(g, round+block+page), 0)
				}
				is(t, "Erase", d.Erase(block), api.OK)
			}
			is(t, "Erase", d.Erase(0), api.OK)
		}
		good(t, d, all(g)...)
	}
}

// P8.3: a block that fails in a Write or in an Erase is marked, and that one alone; what was on it stays. P8.5: it is not used again.
func TestFail(t *testing.T) {
	for _, g := range shapes() {
		for _, erase := range []bool{false, true} {
			block := g.Blocks - 1
			c, d := made(t, g)
			is(t, "Write", d.Write(block, 0, of(g, 1)), api.OK)
			c.Weak(block)
			reads(t, d, block, 0, of(g, 1), 0)
			if erase {
				is(t, "Erase", d.Erase(block), api.ErrFail)
			} else {
				is(t, "Write", d.Write(block, 1, of(g, 2)), api.ErrFail)
			}
			if !c.Bad(block) {
				t.Fatal("a block that failed is not marked")
			}
			good(t, d, all(g, block)...)
			unread(t, d, block, 0, api.ErrBad)
			is(t, "Write", d.Write(block, 0, of(g, 3)), api.ErrBad)
			is(t, "Write", d.Write(block, 1, of(g, 3)), api.ErrBad)
			is(t, "Erase", d.Erase(block), api.ErrBad)
			whole(t, d, block, 0, false)
			whole(t, d, block, 1, false)
			holds(t, c, block, 0, packed(t, g, of(g, 1)))
			holds(t, c, block, 1, blank(g))
			c.Off()
			c.On()
			good(t, d, all(g, block)...)
		}
	}
}

// P8.3: a Write and an Erase are one deed each, and one more, the mark, if the block fails. If the power goes in the mark, that is the answer; whether it is marked hangs on how much of it was done.
func TestFailCut(t *testing.T) {
	g := small()
	for _, erase := range []bool{false, true} {
		for n := 1; n <= 3; n++ {
			for keep := range 2 {
				c, d := made(t, g)
				c.Weak(1)
				c.Arm(n, keep)
				var err api.Errno
				if erase {
					err = d.Erase(1)
				} else {
					err = d.Write(1, 0, of(g, 1))
				}
				if n < 3 {
					is(t, "the deed that is cut", err, api.ErrDown)
				} else {
					is(t, "the deed", err, api.ErrFail)
				}
				if c.Up() != (n == 3) {
					t.Fatalf("Arm(%d, %d): Up() = %v", n, keep, c.Up())
				}
				c.On()
				if marked := n == 3 || n == 2 && keep == 1; c.Bad(1) != marked {
					t.Fatalf("Arm(%d, %d): Bad(1) = %v", n, keep, c.Bad(1))
				}
				if n == 3 {
					is(t, "the third deed", d.Erase(0), api.ErrDown)
				} else {
					is(t, "not armed any more", d.Erase(0), api.OK)
				}
			}
		}
	}
}

// P8.3: a Write in which the power goes answers ErrDown, marks nothing, and leaves a page that is torn or blank, or the data, if all its bytes were laid.
func TestWriteCut(t *testing.T) {
	for _, g := range []api.Geometry{small(), shape(2, 2, 3, 20, 2)} {
		for keep := -1; keep <= size(g)+1; keep++ {
			c, d := made(t, g)
			is(t, "Write", d.Write(1, 0, of(g, 1)), api.OK)
			c.Arm(1, keep)
			is(t, "Write", d.Write(1, 1, of(g, 2)), api.ErrDown)
			unread(t, d, 1, 1, api.ErrDown)
			unasked(t, d, 1, 1, api.ErrDown)
			good(t, d)
			c.On()
			good(t, d, all(g)...)
			reads(t, d, 1, 0, of(g, 1), 0)
			whole(t, d, 1, 1, true)
			whole(t, d, 1, 2, keep >= size(g))
			if keep >= size(g) {
				reads(t, d, 1, 1, of(g, 2), 0)
				continue
			}
			_, _, err := d.Read(1, 1)
			if err != api.ErrTorn && err != api.ErrBlank {
				t.Fatalf("%d bytes were laid: Read answers %d", keep, err)
			}
			is(t, "Write", d.Write(1, 1, of(g, 2)), api.ErrOrder)
			is(t, "Erase", d.Erase(1), api.OK)
			is(t, "Write", d.Write(1, 0, of(g, 2)), api.OK)
		}
	}
}

// P8.3: an Erase in which the power goes answers ErrDown, and leaves what layer 7 says.
func TestEraseCut(t *testing.T) {
	g := small()
	for keep := -1; keep <= g.Pages+1; keep++ {
		c, d := made(t, g)
		for page := range g.Pages {
			is(t, "Write", d.Write(0, page, of(g, page)), api.OK)
		}
		c.Arm(1, keep)
		is(t, "Erase", d.Erase(0), api.ErrDown)
		is(t, "Erase", d.Erase(0), api.ErrDown)
		c.On()
		good(t, d, 0, 1, 2)
		for page := range g.Pages {
			if page < keep {
				unread(t, d, 0, page, api.ErrBlank)
			} else {
				reads(t, d, 0, page, of(g, page), 0)
			}
		}
		whole(t, d, 0, g.Pages, keep <= 0)
		is(t, "Write", d.Write(0, 0, of(g, 9)), api.ErrOrder)
		is(t, "Erase", d.Erase(0), api.OK)
		is(t, "Write", d.Write(0, 0, of(g, 9)), api.OK)
	}
}

// spread are the places of n bits of a sector, in its bytes and its more bytes (none above 13 times Flips).
func spread(g api.Geometry, sector, n int) []int {
	var out []int
	for i := range n {
		place := i * 29 % (8 * g.Bytes)
		if i == 1 {
			place = 8*g.Bytes + 13*g.Flips - 1
		}
		out = append(out, 8*long(g)*sector+place)
	}
	return out
}

// P8.2 and P8.5: the data, and the greatest number of bits that were put right in a sector, up to Flips in each.
func TestReadFlips(t *testing.T) {
	for _, g := range shapes() {
		c, d := made(t, g)
		is(t, "Write", d.Write(0, 0, of(g, 1)), api.OK)
		var every []int
		for sector := range g.Sectors {
			for n := range g.Flips + 1 {
				c.Flip(0, 0, spread(g, sector, n))
				reads(t, d, 0, 0, of(g, 1), n)
				whole(t, d, 0, 1, true)
			}
			every = append(every, spread(g, sector, g.Flips)...)
		}
		c.Flip(0, 0, every)
		reads(t, d, 0, 0, of(g, 1), g.Flips)
		whole(t, d, 0, 1, true)
		c.Flip(0, 0, append(every[:len(every)-g.Flips:len(every)-g.Flips], spread(g, g.Sectors-1, 1)...))
		if g.Sectors > 1 {
			reads(t, d, 0, 0, of(g, 1), g.Flips)
		} else {
			reads(t, d, 0, 0, of(g, 1), 1)
		}
		c.Flip(0, 0, nil)
		reads(t, d, 0, 0, of(g, 1), 0)
	}
}

// far finds bits of the sector that are too many for the code.
func far(t *testing.T, g api.Geometry, raw []byte, sector int) []int {
	t.Helper()
	source := rand.New(rand.NewSource(802))
	for range 1000 {
		var places []int
		turned := slices.Clone(raw)
		for _, n := range source.Perm(8 * g.Bytes)[:g.Flips+1] {
			place := 8*long(g)*sector + n
			places = append(places, place)
			turned[place/8] ^= 1 << (place % 8)
		}
		if _, _, err := ecc.Read(g, turned); err == api.ErrFlips {
			return places
		}
	}
	t.Fatal("no such bits were found")
	return nil
}

// P8.2: too many bits of a sector are read wrongly: ErrFlips, and no data. P8.4: Unpack tells such a page without an error of its own, and it is whole.
func TestReadTooMany(t *testing.T) {
	for _, g := range shapes() {
		c, d := made(t, g)
		is(t, "Write", d.Write(0, 0, of(g, 1)), api.OK)
		is(t, "Write", d.Write(0, 1, of(g, 2)), api.OK)
		for _, sector := range []int{0, g.Sectors - 1} {
			c.Flip(0, 1, far(t, g, packed(t, g, of(g, 2)), sector))
			unread(t, d, 0, 1, api.ErrFlips)
			reads(t, d, 0, 0, of(g, 1), 0)
			whole(t, d, 0, 1, true)
			whole(t, d, 0, 2, true)
		}
		good(t, d, all(g)...)
		c.Flip(0, 1, nil)
		reads(t, d, 0, 1, of(g, 2), 0)
	}
}

// P8.2 and P8.4: pages that are blank, or torn, with bits that are read wrongly.
func TestReadNone(t *testing.T) {
	for _, g := range shapes() {
		c, d := made(t, g)
		c.Flip(0, 0, spread(g, 0, g.Flips))
		unread(t, d, 0, 0, api.ErrBlank)
		whole(t, d, 0, 1, false)
		c.Flip(0, 0, spread(g, 0, g.Flips+1))
		unread(t, d, 0, 0, api.ErrTorn)
		whole(t, d, 0, 1, false)
		is(t, "Erase", d.Erase(0), api.OK)
		is(t, "Write", d.Write(0, 0, of(g, 1)), api.OK)
		for bit := range 8 {
			c.Flip(0, 0, []int{8*size(g) - 8 + bit})
			unread(t, d, 0, 0, api.ErrTorn)
			whole(t, d, 0, 1, false)
		}
		c.Flip(0, 0, nil)
		whole(t, d, 0, 1, true)
	}
}

// P8.4: of each number of written pages, and each number that is asked for.
func TestWhole(t *testing.T) {
	for _, g := range shapes() {
		_, d := made(t, g)
		for written := range g.Pages + 1 {
			for _, pages := range []int{0, 1, written - 1, written, written + 1, g.Pages - 1, g.Pages} {
				if pages >= 0 && pages <= g.Pages {
					whole(t, d, 0, pages, pages <= written)
				}
			}
			if written < g.Pages {
				is(t, "Write", d.Write(0, written, of(g, written)), api.OK)
			}
		}
		if g.Blocks > 1 {
			whole(t, d, 1, 0, true)
			whole(t, d, 1, 1, false)
		}
	}
}

// P8.4: one page that is torn or blank among whole ones, wherever it is; those behind the ones that are asked for do not count.
func TestWholeOne(t *testing.T) {
	g := shape(2, 5, 2, 8, 1)
	torn := packed(t, g, of(g, 7))
	torn[size(g)-1] = 0x01
	for _, raw := range [][]byte{torn, blank(g)} {
		for hole := range g.Pages {
			c, d := made(t, g)
			for page := range g.Pages {
				is(t, "Write", d.Write(1, page, of(g, page)), api.OK)
			}
			is(t, "Force", c.Force(1, hole, raw), api.OK)
			for pages := range g.Pages + 1 {
				whole(t, d, 1, pages, pages <= hole)
				whole(t, d, 0, pages, pages == 0)
			}
			is(t, "Mark", c.Mark(1), api.OK)
			for pages := range g.Pages + 1 {
				whole(t, d, 1, pages, false)
			}
		}
	}
}

// P8.2 and P8.4: raw bytes that were never packed are told as layer 6 tells them.
func TestReadAny(t *testing.T) {
	source := rand.New(rand.NewSource(803))
	g := shape(2, 3, 2, 8, 2)
	c, d := made(t, g)
	for range 3000 {
		raw := packed(t, g, some(source, g))
		for range source.Intn(8) {
			raw[source.Intn(len(raw))] ^= 1 << source.Intn(8)
		}
		if source.Intn(3) == 0 {
			copy(raw[source.Intn(len(raw)):], blank(g))
		}
		is(t, "Force", c.Force(0, 1, raw), api.OK)
		data, n, err := d.Read(0, 1)
		wantData, wantN, want := ecc.Read(g, raw)
		if !bytes.Equal(data, wantData) || n != wantN || err != want {
			t.Fatalf("Read of % x = % x, %d, %d; want % x, %d, %d", raw, data, n, err, wantData, wantN, want)
		}
		is(t, "Force", c.Force(0, 0, raw), api.OK)
		_, want = ecc.Unpack(g, raw)
		whole(t, d, 0, 2, want == api.OK)
	}
}

// R1: Read, Whole and Good are no deeds, and change nothing.
func TestReadIsNoDeed(t *testing.T) {
	g := small()
	c, d := made(t, g, 2)
	is(t, "Write", d.Write(0, 0, of(g, 1)), api.OK)
	c.Weak(1)
	c.Arm(1, 0)
	ahead := snapshot(t, c)
	for block := range g.Blocks {
		for page := range g.Pages {
			d.Read(block, page)
			d.Whole(block, page)
		}
		d.Whole(block, g.Pages)
	}
	d.Good()
	d.Geometry()
	if !c.Up() || !bytes.Equal(ahead, snapshot(t, c)) {
		t.Fatal("what is read is changed by it")
	}
	is(t, "the first deed", d.Erase(0), api.ErrDown)
}

// R2: data are neither written into nor kept, nor is their spare room; what comes out is new memory.
func TestMemory(t *testing.T) {
	for _, g := range shapes() {
		_, d := made(t, g)
		n := room(g)
		roomy := append(of(g, 1), bytes.Repeat([]byte{0xa5}, 2*size(g))...)
		before := slices.Clone(roomy)
		is(t, "Write", d.Write(0, 0, roomy[:n]), api.OK)
		is(t, "Write", d.Write(0, 0, roomy[:n]), api.ErrOrder)
		is(t, "Write", d.Write(0, 1, roomy[:n-1]), api.ErrArg)
		if !bytes.Equal(before, roomy) {
			t.Fatal("data, or their spare room, are written into")
		}
		clear(roomy)
		one, _, err := d.Read(0, 0)
		is(t, "Read", err, api.OK)
		two, _, err := d.Read(0, 0)
		is(t, "Read", err, api.OK)
		clear(one[:cap(one)])
		if !bytes.Equal(two, of(g, 1)) {
			t.Fatal("two answers share memory")
		}
		clear(two[:cap(two)])
		reads(t, d, 0, 0, of(g, 1), 0)
		blocks := d.Good()
		for i := range blocks {
			blocks[i] = -1
		}
		good(t, d, all(g)...)
	}
}

// A drive keeps nothing but the chip: whatever others do to it counts at once.
func TestKeepsNothing(t *testing.T) {
	g := small()
	c, d := made(t, g)
	is(t, "Write", d.Write(0, 0, of(g, 1)), api.OK)
	reads(t, d, 0, 0, of(g, 1), 0)
	is(t, "the chip's Erase", c.Erase(0), api.OK)
	unread(t, d, 0, 0, api.ErrBlank)
	whole(t, d, 0, 1, false)
	is(t, "the chip's Program", c.Program(0, 0, packed(t, g, of(g, 2))), api.OK)
	reads(t, d, 0, 0, of(g, 2), 0)
	whole(t, d, 0, 1, true)
	is(t, "Write", d.Write(0, 0, of(g, 3)), api.ErrOrder)
	is(t, "Write", d.Write(0, 1, of(g, 3)), api.OK)
	is(t, "Force", c.Force(0, 0, packed(t, g, of(g, 4))), api.OK)
	reads(t, d, 0, 0, of(g, 4), 0)
	is(t, "Mark", c.Mark(0), api.OK)
	unread(t, d, 0, 0, api.ErrBad)
	whole(t, d, 0, 1, false)
	good(t, d, 1, 2)
	c.Off()
	unread(t, d, 1, 0, api.ErrDown)
	c.On()
	unread(t, d, 1, 0, api.ErrBlank)
}

// plain is a drive as the chapter says it, on a chip of its own.
type plain struct{ c *chip.Chip }

// ahead are the errors that are named ahead of what the chip answers.
func (p plain) ahead(block, page, bytes int) api.Errno {
	g := p.c.Geometry()
	switch {
	case !p.c.Up():
		return api.ErrDown
	case block < 0 || block >= g.Blocks || page < 0 || page >= g.Pages || bytes != room(g):
		return api.ErrArg
	case p.c.Bad(block):
		return api.ErrBad
	}
	return api.OK
}

func (p plain) marks(block int, err api.Errno) api.Errno {
	if err == api.ErrFail && p.c.Mark(block) != api.OK {
		return api.ErrDown
	}
	return err
}

func (p plain) read(block, page int) ([]byte, int, api.Errno) {
	g := p.c.Geometry()
	if err := p.ahead(block, page, room(g)); err != api.OK {
		return nil, 0, err
	}
	raw, _ := p.c.Read(block, page)
	return ecc.Read(g, raw)
}

func (p plain) write(block, page int, data []byte) api.Errno {
	if err := p.ahead(block, page, len(data)); err != api.OK {
		return err
	}
	raw, _ := ecc.Pack(p.c.Geometry(), data)
	return p.marks(block, p.c.Program(block, page, raw))
}

func (p plain) erase(block int) api.Errno {
	if err := p.ahead(block, 0, room(p.c.Geometry())); err != api.OK {
		return err
	}
	return p.marks(block, p.c.Erase(block))
}

func (p plain) whole(block, pages int) (bool, api.Errno) {
	g := p.c.Geometry()
	err := p.ahead(block, 0, room(g))
	switch {
	case err == api.ErrDown:
		return false, err
	case err == api.ErrArg || pages < 0 || pages > g.Pages:
		return false, api.ErrArg
	case err == api.ErrBad:
		return false, api.OK
	}
	count := 0
	for page := range pages {
		raw, _ := p.c.Read(block, page)
		if _, err := ecc.Unpack(g, raw); err == api.OK {
			count++
		}
	}
	return count == pages, api.OK
}

func (p plain) good() []int {
	var out []int
	for block := range p.c.Geometry().Blocks {
		if p.c.Up() && !p.c.Bad(block) {
			out = append(out, block)
		}
	}
	return out
}

// alike holds all that the two tell against each other.
func alike(t *testing.T, d *drive.Drive, p plain, step int) {
	t.Helper()
	g := p.c.Geometry()
	if !slices.Equal(d.Good(), p.good()) {
		t.Fatalf("step %d: Good() = %v, want %v", step, d.Good(), p.good())
	}
	for block := -1; block <= g.Blocks; block++ {
		for page := -1; page <= g.Pages+1; page++ {
			data, n, err := d.Read(block, page)
			wantData, wantN, want := p.read(block, page)
			if !bytes.Equal(data, wantData) || n != wantN || err != want {
				t.Fatalf("step %d: Read(%d, %d) = % x, %d, %d; want % x, %d, %d", step, block, page, data, n, err, wantData, wantN, want)
			}
			is, err := d.Whole(block, page)
			wantIs, want := p.whole(block, page)
			if is != wantIs || err != want {
				t.Fatalf("step %d: Whole(%d, %d) = %v, %d; want %v, %d", step, block, page, is, err, wantIs, want)
			}
		}
	}
}

// both does the same with the two chips, as far as it is no drive's call.
func both(source *rand.Rand, c *chip.Chip, p plain) {
	g := c.Geometry()
	block, page := source.Intn(g.Blocks), source.Intn(g.Pages)
	n, keep, dice := source.Intn(6)-1, source.Intn(size(g)+4)-2, source.Intn(30)
	places := make([]int, source.Intn(4))
	for i := range places {
		places[i] = source.Intn(8 * size(g))
	}
	for _, c := range []*chip.Chip{c, p.c} {
		switch {
		case dice < 2:
			c.Off()
		case dice < 12:
			c.On()
		case dice < 18:
			c.Arm(n, keep)
		case dice < 22:
			c.Flip(block, page, places)
		case dice == 22:
			c.Erase(block)
		case dice == 23:
			c.Force(block, page, blank(g))
		case dice == 24 && n == 0:
			c.Weak(block)
		}
	}
}

// P8.2 to P8.5: long rows of calls, held against a drive as the chapter says it.
func TestLongRows(t *testing.T) {
	source := rand.New(rand.NewSource(804))
	for _, g := range []api.Geometry{small(), shape(4, 3, 2, 8, 2), shape(2, 2, 1, 16, 8)} {
		for range 20 {
			bad := []int{source.Intn(g.Blocks)}[:source.Intn(2)]
			c, d := made(t, g, bad...)
			twin, _ := made(t, g, bad...)
			p := plain{twin}
			for step := range 150 {
				both(source, c, p)
				block, page := source.Intn(g.Blocks+2)-1, source.Intn(g.Pages+2)-1
				data := some(source, g)
				if source.Intn(20) == 0 {
					data = data[source.Intn(3):]
				}
				if source.Intn(4) == 0 {
					is(t, "Erase", d.Erase(block), p.erase(block))
				} else {
					is(t, "Write", d.Write(block, page, data), p.write(block, page, data))
				}
				alike(t, d, p, step)
			}
		}
	}
}

// P8.5: what was written without an error is read till its block is erased, whatever happens to other blocks, and while each sector has few enough wrong bits.
func TestWrittenIsRead(t *testing.T) {
	source := rand.New(rand.NewSource(805))
	g := shape(6, 4, 2, 8, 2)
	c, d := made(t, g)
	written := map[[2]int][]byte{}
	failed := map[int]int{}
	next := make([]int, g.Blocks)
	for step := range 4000 {
		block := source.Intn(g.Blocks)
		if source.Intn(1000) == 0 {
			c.Weak(block)
		}
		c.Arm(source.Intn(30), source.Intn(size(g)))
		var err api.Errno
		if next[block] == g.Pages || source.Intn(8) == 0 {
			err = d.Erase(block)
			if err == api.OK || err == api.ErrDown {
				next[block] = 0
				for page := range g.Pages {
					delete(written, [2]int{block, page})
				}
			}
			if err == api.ErrDown {
				next[block] = g.Pages
			}
		} else {
			data := some(source, g)
			err = d.Write(block, next[block], data)
			if err == api.OK {
				written[[2]int{block, next[block]}] = data
			}
			if err == api.ErrDown {
				next[block] = g.Pages
			} else {
				next[block]++
			}
		}
		c.On()
		if failed[block] > 0 && err != api.ErrBad {
			t.Fatalf("step %d: block %d failed, and was used again: %d", step, block, err)
		}
		if c.Bad(block) {
			failed[block]++
		}
		for block := range g.Blocks {
			for page := range g.Pages {
				data, ok := written[[2]int{block, page}]
				if !ok {
					continue
				}
				if failed[block] > 0 {
					unread(t, d, block, page, api.ErrBad)
					continue
				}
				n := source.Intn(g.Flips + 1)
				c.Flip(block, page, spread(g, source.Intn(g.Sectors), n))
				reads(t, d, block, page, data, n)
			}
		}
	}
	if len(failed) == 0 || len(failed) == g.Blocks {
		t.Fatalf("%d blocks failed: other rows of calls are needed", len(failed))
	}
}
