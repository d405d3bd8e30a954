package store_test

import (
	"bytes"
	"math"
	"math/rand"
	"slices"
	"testing"

	"casemate/api"
	"casemate/attach"
	"casemate/chip"
	"casemate/drive"
	"casemate/ecc"
	"casemate/head"
	"casemate/store"
)

// mostNumber is the greatest number of a writing.
const mostNumber = 1000000000

// outside are numbers of no logical block, and numbers of logical blocks that may not be.
var outside = []int{-1, -2, -64, 65, 66, 128, 256, 1 << 31, 1 << 32, 1<<32 + 1, 1 << 62, math.MinInt, math.MinInt + 1, math.MaxInt, math.MaxInt - 1, math.MinInt32, math.MaxInt32}

// shape is a geometry of these numbers.
func shape(blocks, pages, sectors, size, flips int) api.Geometry {
	return api.Geometry{Blocks: blocks, Pages: pages, Sectors: sectors, Bytes: size, Flips: flips}
}

// small has pages of 16 data bytes and 19 raw ones: a logical block has 48 bytes.
func small() api.Geometry { return shape(6, 4, 1, 16, 1) }

// shapes are geometries of unlike chips.
func shapes() []api.Geometry {
	return []api.Geometry{small(), shape(4, 2, 1, 16, 1), shape(4, 3, 8, 512, 8), shape(4, 64, 4, 4, 2), shape(5, 7, 3, 20, 2)}
}

// room is how many data bytes a page has.
func room(g api.Geometry) int { return g.Sectors * g.Bytes }

// most is how many bytes a logical block may have.
func most(g api.Geometry) int { return (g.Pages - 1) * room(g) }

// apart is how many raw bytes a sector takes, with its more bytes.
func apart(g api.Geometry) int { return g.Bytes + (13*g.Flips+7)/8 }

// long is how many raw bytes a page has.
func long(g api.Geometry) int { return g.Sectors*apart(g) + 1 }

// is holds an error against the one that is asked for.
func is(t *testing.T, name string, got, want api.Errno) {
	t.Helper()
	if got != want {
		t.Fatalf("%s = %d, want %d", name, got, want)
	}
}

// made is a chip and its drive.
func made(t *testing.T, g api.Geometry, bad ...int) (*chip.Chip, *drive.Drive) {
	t.Helper()
	c, err := chip.New(g, bad)
	is(t, "chip.New", err, api.OK)
	d, err := drive.New(c)
	is(t, "drive.New", err, api.OK)
	return c, d
}

// opened is the call where no error may come.
func opened(t *testing.T, d *drive.Drive, lebs int) *store.Store {
	t.Helper()
	s, err := store.Open(d, lebs)
	if s == nil || err != api.OK {
		t.Fatalf("Open(.., %d) = %v, %d", lebs, s, err)
	}
	return s
}

// changed is a Change where no error may come.
func changed(t *testing.T, s *store.Store, leb int, data []byte) {
	t.Helper()
	is(t, "Change", s.Change(leb, data), api.OK)
}

// reads fails if the logical block does not have just these bytes, with so many bits put right.
func reads(t *testing.T, s *store.Store, leb int, want []byte, flips int) {
	t.Helper()
	got, n, err := s.Read(leb)
	if !bytes.Equal(got, want) || n != flips || err != api.OK || !s.Has(leb) {
		t.Fatalf("Read(%d) = % x, %d, %d, Has %v; want % x, %d", leb, got, n, err, s.Has(leb), want, flips)
	}
}

// unread fails if Read does not answer this error, and nothing beside it.
func unread(t *testing.T, s *store.Store, leb int, want api.Errno) {
	t.Helper()
	if got, n, err := s.Read(leb); len(got) != 0 || n != 0 || err != want {
		t.Fatalf("Read(%d) = % x, %d, %d; want the error %d alone", leb, got, n, err, want)
	}
}

// without fails if the logical block has a block.
func without(t *testing.T, s *store.Store, leb int) {
	t.Helper()
	unread(t, s, leb, api.ErrNone)
	if s.Has(leb) {
		t.Fatalf("Has(%d), and there is none", leb)
	}
}

// some makes bytes, unlike for unlike seeds.
func some(n, seed int) []byte {
	p := make([]byte, n)
	for i := range p {
		p[i] = byte(41*seed + 7*i + i/251 + 1)
	}
	return p
}

// page is one's data, of bytes with 00 behind them.
func page(g api.Geometry, data []byte) []byte {
	p := make([]byte, room(g))
	copy(p, data)
	return p
}

// headed is a head's page.
func headed(t *testing.T, g api.Geometry, h api.Head) []byte {
	t.Helper()
	p, err := head.Bytes(g, h)
	is(t, "head.Bytes", err, api.OK)
	return p
}

// write lays a head and pages behind it on an erased block.
func write(t *testing.T, d *drive.Drive, block int, h api.Head, pages ...[]byte) {
	t.Helper()
	g := d.Geometry()
	is(t, "Write", d.Write(block, 0, headed(t, g, h)), api.OK)
	for i, data := range pages {
		is(t, "Write", d.Write(block, i+1, page(g, data)), api.OK)
	}
}

// force lays a page's data on a page, whatever it was.
func force(t *testing.T, c *chip.Chip, block, at int, data []byte) {
	t.Helper()
	raw, err := ecc.Pack(c.Geometry(), data)
	is(t, "Pack", err, api.OK)
	is(t, "Force", c.Force(block, at, raw), api.OK)
}

// scan is what is found on the chip.
func scan(t *testing.T, d *drive.Drive) []api.Found {
	t.Helper()
	found, err := attach.Scan(d)
	is(t, "Scan", err, api.OK)
	return found
}

// block is the one that stands for a logical block, by what is on the chip.
func block(t *testing.T, d *drive.Drive, leb int) int {
	t.Helper()
	blocks, _, err := attach.Pick(64, scan(t, d))
	is(t, "Pick", err, api.OK)
	return blocks[leb]
}

// raws is all that is read of a chip.
func raws(t *testing.T, c *chip.Chip) [][]byte {
	t.Helper()
	var out [][]byte
	for block := range c.Geometry().Blocks {
		for page := range c.Geometry().Pages {
			raw, err := c.Read(block, page)
			is(t, "chip.Read", err, api.OK)
			out = append(out, raw)
		}
	}
	return out
}

// bits are n places of a sector's bytes.
func bits(g api.Geometry, sector, n int) []int {
	var out []int
	for i := range n {
		out = append(out, 8*sector*apart(g)+1+3*i)
	}
	return out
}

// tooMany finds bits of a page's first sector that are too many for the code.
func tooMany(t *testing.T, c *chip.Chip, block, at int) []int {
	t.Helper()
	source := rand.New(rand.NewSource(1101))
	g := c.Geometry()
	raw, err := c.Read(block, at)
	is(t, "chip.Read", err, api.OK)
	for range 1000 {
		places := source.Perm(8 * g.Bytes)[:g.Flips+1]
		turned := slices.Clone(raw)
		for _, place := range places {
			turned[place/8] ^= 1 << (place % 8)
		}
		if _, _, err := ecc.Read(g, turned); err == api.ErrFlips {
			return places
		}
	}
	t.Fatal("no such bits were found")
	return nil
}

// deeds is how many deeds a call does on a chip that is made anew for it.
func deeds(t *testing.T, make func() *chip.Chip, call func()) int {
	t.Helper()
	for n := 1; n < 10000; n++ {
		c := make()
		c.Arm(n, 0)
		call()
		if c.Up() {
			return n - 1
		}
	}
	t.Fatal("the call does not end")
	return 0
}

// P11.2, P11.3, P11.4: the chapter's first example.
func TestExample(t *testing.T) {
	_, d := made(t, small())
	s := opened(t, d, 1)
	unread(t, s, 0, api.ErrNone)
	is(t, "Change(0, abc)", s.Change(0, []byte("abc")), api.OK)
	reads(t, s, 0, []byte("abc"), 0)
	is(t, "Unmap(0)", s.Unmap(0), api.OK)
	unread(t, s, 0, api.ErrNone)
}

// P11.6: the chapter's second example, and the document's third one: x till the last byte of the last page is there, then y.
func TestExampleCut(t *testing.T) {
	g := small()
	for deed := 1; deed <= 3; deed++ {
		for keep := -1; keep <= long(g)+1; keep++ {
			c, d := made(t, g)
			s := opened(t, d, 1)
			changed(t, s, 0, []byte("x"))
			c.Arm(deed, keep)
			is(t, "Change(0, y)", s.Change(0, []byte("y")), api.ErrDown)
			c.On()
			want := "x"
			if deed == 3 && keep >= long(g) {
				want = "y"
			}
			reads(t, opened(t, d, 1), 0, []byte(want), 0)
		}
	}
}

// P11.1: a drive that is nil, ahead of numbers that may not be, and these ahead of no power.
func TestOpenErrors(t *testing.T) {
	refused := func(d *drive.Drive, lebs int, want api.Errno) {
		t.Helper()
		if s, err := store.Open(d, lebs); s != nil || err != want {
			t.Fatalf("Open(.., %d) = %v, %d, want the error %d", lebs, s, err, want)
		}
	}
	c, d := made(t, small())
	for _, lebs := range append([]int{0}, outside...) {
		refused(nil, lebs, api.ErrNil)
		c.On()
		refused(d, lebs, api.ErrArg)
		c.Off()
		refused(d, lebs, api.ErrArg)
	}
	for lebs := 1; lebs <= 64; lebs++ {
		refused(nil, lebs, api.ErrNil)
		c.Off()
		refused(d, lebs, api.ErrDown)
		c.On()
		opened(t, d, lebs)
	}
	c, d = made(t, shape(1, 2, 1, 16, 1), 0)
	opened(t, d, 1)
	c.Off()
	refused(d, 1, api.ErrDown)
}

// P11.1, P11.2: a chip without anything on it: so many logical blocks, so many bytes, none stands.
func TestOpenEmpty(t *testing.T) {
	for _, g := range append(shapes(), shape(256, 64, 8, 512, 8), shape(1, 2, 1, 16, 1)) {
		_, d := made(t, g)
		for _, lebs := range []int{1, 2, 11, 63, 64} {
			s := opened(t, d, lebs)
			if s.Lebs() != lebs || s.Cap() != most(g) {
				t.Fatalf("%v: Lebs() = %d, Cap() = %d, want %d and %d", g, s.Lebs(), s.Cap(), lebs, most(g))
			}
			for leb := range lebs {
				without(t, s, leb)
			}
			unread(t, s, lebs, api.ErrArg)
		}
	}
}

// P11.1: those stand that layer 10 picks: the greatest Number of a whole block; none that is not whole, none that is marked, none of a logical block that the store does not have.
func TestOpenFinds(t *testing.T) {
	g := shape(9, 4, 1, 16, 1)
	_, d := made(t, g)
	write(t, d, 5, api.Head{Leb: 0, Bytes: 3, Number: 7}, []byte("old"))
	write(t, d, 2, api.Head{Leb: 0, Bytes: 3, Number: 8}, []byte("new"))
	write(t, d, 7, api.Head{Leb: 0, Bytes: 17, Number: 9}, []byte("not whole"))
	write(t, d, 1, api.Head{Leb: 2, Bytes: 0, Number: 20})
	write(t, d, 0, api.Head{Leb: 3, Bytes: 40, Number: 3}, some(16, 1), some(16, 2), some(8, 3))
	write(t, d, 8, api.Head{Leb: 1, Bytes: 40, Number: 4}, some(16, 4), some(16, 5))
	s := opened(t, d, 3)
	reads(t, s, 0, []byte("new"), 0)
	without(t, s, 1)
	reads(t, s, 2, nil, 0)
	unread(t, s, 3, api.ErrArg)
	reads(t, opened(t, d, 4), 3, slices.Concat(some(16, 1), some(16, 2), some(8, 3)), 0)
}

// P11.1: a marked block does not stand, whatever its head says.
func TestOpenMarked(t *testing.T) {
	c, d := made(t, small())
	write(t, d, 1, api.Head{Leb: 0, Bytes: 3, Number: 7}, []byte("old"))
	write(t, d, 2, api.Head{Leb: 0, Bytes: 3, Number: 8}, []byte("new"))
	is(t, "Mark", c.Mark(2), api.OK)
	reads(t, opened(t, d, 1), 0, []byte("old"), 0)
	is(t, "Mark", c.Mark(1), api.OK)
	without(t, opened(t, d, 1), 0)
}

// P11.1: a store that is nil.
func TestNil(t *testing.T) {
	var s *store.Store
	for _, leb := range append([]int{0, 1, 63}, outside...) {
		if s.Lebs() != 0 || s.Cap() != 0 || s.Has(leb) {
			t.Fatalf("nil: Lebs %d, Cap %d, Has %v", s.Lebs(), s.Cap(), s.Has(leb))
		}
		unread(t, s, leb, api.ErrNil)
		is(t, "Change", s.Change(leb, []byte("x")), api.ErrNil)
		is(t, "Change", s.Change(leb, make([]byte, 1<<20)), api.ErrNil)
		is(t, "Unmap", s.Unmap(leb), api.ErrNil)
	}
}

// P11.2, P11.3, P11.4: no such logical block, with power and without: that is no ErrDown, and no deed.
func TestNoSuchLeb(t *testing.T) {
	g := small()
	for _, lebs := range []int{1, 3, 64} {
		c, d := made(t, g)
		s := opened(t, d, lebs)
		changed(t, s, 0, []byte("x"))
		c.Arm(1, 0)
		for _, leb := range append([]int{lebs, lebs + 1}, outside...) {
			for _, power := range []func(){c.On, c.Off} {
				power()
				unread(t, s, leb, api.ErrArg)
				is(t, "Change", s.Change(leb, []byte("x")), api.ErrArg)
				is(t, "Change", s.Change(leb, nil), api.ErrArg)
				is(t, "Change", s.Change(leb, make([]byte, most(g)+1)), api.ErrArg)
				is(t, "Unmap", s.Unmap(leb), api.ErrArg)
				if s.Has(leb) {
					t.Fatalf("Has(%d) of %d", leb, lebs)
				}
			}
		}
		c.On()
		reads(t, s, 0, []byte("x"), 0)
	}
}

// P11.2, P11.3: each number of bytes at an edge is read, also when the store is opened anew; on the chip there are the head, the bytes with 00 behind them, and nothing more.
func TestSizes(t *testing.T) {
	for _, g := range shapes() {
		c, d := made(t, g)
		s := opened(t, d, 2)
		other := some(most(g), 99)
		changed(t, s, 1, other)
		for _, n := range []int{0, 1, room(g) - 1, room(g), room(g) + 1, 2 * room(g), 2*room(g) + 1, most(g) - room(g), most(g) - room(g) + 1, most(g) - 1, most(g)} {
			if n > most(g) {
				continue
			}
			data := some(n, n)
			changed(t, s, 0, data)
			reads(t, s, 0, data, 0)
			s = opened(t, d, 2)
			reads(t, s, 0, data, 0)
			reads(t, s, 1, other, 0)
			laid(t, c, d, 0, data)
		}
	}
}

// laid holds the pages of a logical block's block against what they are to be.
func laid(t *testing.T, c *chip.Chip, d *drive.Drive, leb int, data []byte) {
	t.Helper()
	g := c.Geometry()
	block := block(t, d, leb)
	first, _, err := d.Read(block, 0)
	is(t, "drive.Read", err, api.OK)
	h, err := head.Parse(g, first)
	if err != api.OK || h.Leb != leb || h.Bytes != len(data) {
		t.Fatalf("the head of %d is %v, %d", leb, h, err)
	}
	at := 1
	for piece := range slices.Chunk(data, room(g)) {
		got, _, err := d.Read(block, at)
		if err != api.OK || !bytes.Equal(got, page(g, piece)) {
			t.Fatalf("page %d is % x, %d; want % x", at, got, err, page(g, piece))
		}
		at++
	}
	for ; at < g.Pages; at++ {
		if raw, err := c.Read(block, at); err != api.OK || !bytes.Equal(raw, bytes.Repeat([]byte{0xff}, long(g))) {
			t.Fatalf("page %d is not erased: % x, %d", at, raw, err)
		}
	}
}

// P11.2: the greatest number of bits that were put right, in the first page or one with bytes, in whichever sector; pages behind the bytes do not count, nor those of other blocks.
func TestReadFlips(t *testing.T) {
	for _, g := range []api.Geometry{shape(4, 5, 2, 16, 3), shape(3, 4, 1, 16, 8), shape(4, 6, 4, 8, 2)} {
		c, d := made(t, g)
		s := opened(t, d, 2)
		data := some(room(g)+1, 5)
		changed(t, s, 0, data)
		changed(t, s, 1, data)
		own, other := block(t, d, 0), block(t, d, 1)
		c.Flip(other, 0, bits(g, 0, g.Flips))
		for at := range 3 {
			for sector := range g.Sectors {
				for n := range g.Flips + 1 {
					c.Flip(own, at, bits(g, sector, n))
					reads(t, s, 0, data, n)
				}
				c.Flip(own, (at+1)%3, bits(g, 0, g.Flips-1))
				reads(t, s, 0, data, g.Flips)
				c.Flip(own, at, bits(g, sector, 1))
				reads(t, s, 0, data, max(1, g.Flips-1))
				c.Flip(own, (at+1)%3, nil)
				c.Flip(own, at, nil)
			}
		}
		c.Flip(own, 3, bits(g, 0, g.Flips))
		reads(t, s, 0, data, 0)
		reads(t, s, 1, data, g.Flips)
	}
}

// P11.2: too many bits that are read wrongly: ErrFlips alone. The block stands, and is read when they are gone; another Change puts other bytes in their place.
func TestTooManyFlips(t *testing.T) {
	for _, g := range shapes() {
		c, d := made(t, g)
		s := opened(t, d, 1)
		data := some(most(g), 3)
		changed(t, s, 0, data)
		own := block(t, d, 0)
		for _, at := range []int{0, 1, g.Pages - 1} {
			c.Flip(own, at, tooMany(t, c, own, at))
			unread(t, s, 0, api.ErrFlips)
			if !s.Has(0) {
				t.Fatal("the block does not stand any more")
			}
			c.Flip(own, at, nil)
			reads(t, s, 0, data, 0)
		}
		c.Flip(own, 1, tooMany(t, c, own, 1))
		unread(t, opened(t, d, 1), 0, api.ErrFlips)
		changed(t, s, 0, []byte("y"))
		reads(t, s, 0, []byte("y"), 0)
	}
}

// P11.2: the drive's other errors, when others erased, marked or laid pages: told as they are, and the store goes on.
func TestReadDriveErrors(t *testing.T) {
	g := small()
	c, d := made(t, g)
	s := opened(t, d, 1)
	changed(t, s, 0, some(20, 1))
	own := block(t, d, 0)
	torn := append(bytes.Repeat([]byte{0}, long(g)-1), 0x01)
	is(t, "Force", c.Force(own, 2, torn), api.OK)
	unread(t, s, 0, api.ErrTorn)
	is(t, "Erase", c.Erase(own), api.OK)
	unread(t, s, 0, api.ErrBlank)
	force(t, c, own, 0, some(16, 2))
	unread(t, s, 0, api.ErrForm)
	is(t, "Mark", c.Mark(own), api.OK)
	unread(t, s, 0, api.ErrBad)
	changed(t, s, 0, some(21, 2))
	reads(t, s, 0, some(21, 2), 0)
}

// P11.2: what is known of contents is on the chip alone: what others lay on the block that stands is read, as many bytes as its head says then.
func TestReadFromChip(t *testing.T) {
	g := small()
	c, d := made(t, g)
	s := opened(t, d, 1)
	changed(t, s, 0, some(20, 1))
	own := block(t, d, 0)
	force(t, c, own, 1, some(16, 9))
	reads(t, s, 0, append(some(16, 9), some(20, 1)[16:]...), 0)
	force(t, c, own, 0, headed(t, g, api.Head{Leb: 0, Bytes: 5, Number: 1}))
	reads(t, s, 0, some(5, 9), 0)
}

// P11.3: more bytes than Cap: no deed, nothing changes, with power and without.
func TestLong(t *testing.T) {
	for _, g := range shapes() {
		c, d := made(t, g)
		s := opened(t, d, 2)
		changed(t, s, 0, []byte("x"))
		c.Arm(1, 0)
		for _, n := range []int{most(g) + 1, most(g) + room(g), 1 << 20} {
			is(t, "Change", s.Change(0, make([]byte, n)), api.ErrLong)
			is(t, "Change", s.Change(1, make([]byte, n)), api.ErrLong)
			is(t, "Change", s.Change(2, make([]byte, n)), api.ErrArg)
			c.Off()
			is(t, "Change", s.Change(0, make([]byte, n)), api.ErrLong)
			c.On()
		}
		reads(t, s, 0, []byte("x"), 0)
		without(t, s, 1)
		c.Arm(0, 0)
		changed(t, s, 1, some(most(g), 2))
		reads(t, s, 1, some(most(g), 2), 0)
	}
}

// P11.3: the number of a writing is above all that were used, those of blocks that are not whole and of logical blocks that the store does not have too.
func TestNumbers(t *testing.T) {
	_, d := made(t, shape(8, 3, 1, 16, 1))
	write(t, d, 3, api.Head{Leb: 0, Bytes: 30, Number: 50}, some(16, 1))
	write(t, d, 6, api.Head{Leb: 40, Bytes: 0, Number: 80})
	s := opened(t, d, 2)
	last := 80
	for i := range 20 {
		if i%7 == 6 {
			s = opened(t, d, 2)
		}
		changed(t, s, i%2, some(i, i))
		found := scan(t, d)
		own := block(t, d, i%2)
		for _, f := range found {
			if f.Block == own && f.Head.Number <= last {
				t.Fatalf("the number %d is not above %d", f.Head.Number, last)
			}
		}
		for _, f := range found {
			last = max(last, f.Head.Number)
		}
		reads(t, s, i%2, some(i, i), 0)
	}
}

// P11.3: the last number is used; behind it ErrFull, and nothing is erased, though there are blocks. What was there is read and taken away.
func TestNumbersUsedUp(t *testing.T) {
	c, d := made(t, small())
	write(t, d, 4, api.Head{Leb: 1, Bytes: 4, Number: mostNumber - 1}, []byte("last"))
	s := opened(t, d, 3)
	changed(t, s, 0, []byte("x"))
	for _, found := range scan(t, d) {
		if found.Head.Leb == 0 && found.Head.Number != mostNumber {
			t.Fatalf("the number %d", found.Head.Number)
		}
	}
	before := raws(t, c)
	c.Arm(1, 0)
	for range 2 {
		for leb := range 3 {
			is(t, "Change", s.Change(leb, []byte("y")), api.ErrFull)
			is(t, "Change", s.Change(leb, nil), api.ErrFull)
		}
		is(t, "Change", s.Change(3, nil), api.ErrArg)
		is(t, "Change", s.Change(0, make([]byte, 49)), api.ErrLong)
		reads(t, s, 0, []byte("x"), 0)
		reads(t, s, 1, []byte("last"), 0)
		without(t, s, 2)
		s = opened(t, d, 3)
	}
	if !slices.EqualFunc(raws(t, c), before, bytes.Equal) {
		t.Fatal("something was written")
	}
	c.Arm(0, 0)
	is(t, "Unmap", s.Unmap(0), api.OK)
	without(t, s, 0)
	is(t, "Change", s.Change(0, []byte("y")), api.ErrFull)
	reads(t, s, 1, []byte("last"), 0)
}

// P11.3: blocks that fail in an erasure use no number up: the last one is there for the block that does not.
func TestLastNumberPastWeak(t *testing.T) {
	g := small()
	for good := range g.Blocks - 1 {
		c, d := made(t, g)
		last := g.Blocks - 1
		write(t, d, last, api.Head{Leb: 1, Bytes: 0, Number: mostNumber - 1})
		for block := range last {
			if block != good {
				c.Weak(block)
			}
		}
		s := opened(t, d, 2)
		changed(t, s, 0, []byte("x"))
		reads(t, s, 0, []byte("x"), 0)
		is(t, "Change", s.Change(0, []byte("y")), api.ErrFull)
		reads(t, opened(t, d, 2), 0, []byte("x"), 0)
	}
}

// P11.3: the old block is left as it is, till another writing takes it.
func TestOldBlockStays(t *testing.T) {
	_, d := made(t, small())
	s := opened(t, d, 1)
	changed(t, s, 0, []byte("x"))
	old := block(t, d, 0)
	changed(t, s, 0, []byte("y"))
	if block(t, d, 0) == old {
		t.Fatal("the block that stood was written on")
	}
	if got, _, err := d.Read(old, 1); err != api.OK || got[0] != 'x' {
		t.Fatalf("the old block was erased: % x, %d", got, err)
	}
}

// P11.3, P11.5: each spare block is tried, each once, and failing ones are marked; when none is left: ErrFull, all stands as it stood. Blocks that stand are not tried.
func TestFullByWeak(t *testing.T) {
	g := small()
	c, d := made(t, g, 1)
	s := opened(t, d, 3)
	changed(t, s, 0, []byte("x"))
	changed(t, s, 1, []byte("y"))
	stand := []int{block(t, d, 0), block(t, d, 1)}
	for block := range g.Blocks {
		c.Weak(block)
	}
	spares := g.Blocks - 1 - len(stand)
	c.Arm(2*spares+1, 1) // each of them: an erasure that fails, and a mark
	is(t, "Change", s.Change(0, []byte("z")), api.ErrFull)
	if !c.Up() {
		t.Fatal("a block was tried twice")
	}
	slices.Sort(stand)
	if !slices.Equal(d.Good(), stand) {
		t.Fatalf("Good() = %v, want %v", d.Good(), stand)
	}
	for leb := range 3 {
		is(t, "Change", s.Change(leb, []byte("z")), api.ErrFull)
	}
	is(t, "the next deed", c.Burn(0), api.ErrDown)
	c.On()
	for range 2 {
		reads(t, s, 0, []byte("x"), 0)
		reads(t, s, 1, []byte("y"), 0)
		without(t, s, 2)
		s = opened(t, d, 3)
	}
}

// P11.3: every block stands: ErrFull without a deed, of each logical block; when one is taken away, there is room for one more.
func TestFullByStanding(t *testing.T) {
	g := shape(3, 2, 1, 16, 1)
	c, d := made(t, g)
	s := opened(t, d, 5)
	for leb := range 3 {
		changed(t, s, leb, some(leb, leb))
	}
	c.Arm(1, 0)
	for leb := range 5 {
		is(t, "Change", s.Change(leb, []byte("more")), api.ErrFull)
	}
	for leb := range 3 {
		reads(t, s, leb, some(leb, leb), 0)
	}
	c.Arm(0, 0)
	is(t, "Unmap", s.Unmap(1), api.OK)
	changed(t, s, 4, []byte("four"))
	is(t, "Change", s.Change(1, nil), api.ErrFull)
	reads(t, s, 4, []byte("four"), 0)
	reads(t, s, 0, nil, 0)
	reads(t, s, 2, some(2, 2), 0)
	without(t, s, 1)
}

// P11.3: no block at all: all of them are marked.
func TestFullByMarks(t *testing.T) {
	c, d := made(t, shape(2, 2, 1, 16, 1), 0, 1)
	s := opened(t, d, 1)
	c.Arm(1, 0)
	is(t, "Change", s.Change(0, nil), api.ErrFull)
	without(t, s, 0)
	is(t, "Unmap", s.Unmap(0), api.OK)
	if !c.Up() {
		t.Fatal("there was a deed")
	}
}

// P11.3: a block of a logical block that the store does not have, or that is not whole, is written on like any other.
func TestSpareWithHead(t *testing.T) {
	_, d := made(t, shape(3, 3, 1, 16, 1))
	s := opened(t, d, 1)
	changed(t, s, 0, []byte("x"))
	own := block(t, d, 0)
	for block := range 3 {
		if block != own {
			write(t, d, block, api.Head{Leb: 5, Bytes: 30 * (block % 2), Number: 60})
		}
	}
	s = opened(t, d, 1)
	for i := range 6 {
		changed(t, s, 0, some(i, i))
		reads(t, s, 0, some(i, i), 0)
	}
}

// P11.5: a Change answers OK, if more blocks are neither marked nor weak than there are logical blocks with a block; wherever the good one is, and though blocks that stand are weak.
func TestRoom(t *testing.T) {
	g := shape(5, 3, 1, 16, 1)
	for spare := range g.Blocks {
		for _, marked := range []bool{false, true} {
			c, d := made(t, g)
			s := opened(t, d, 2)
			changed(t, s, 0, []byte("x"))
			changed(t, s, 1, []byte("y"))
			stand := []int{block(t, d, 0), block(t, d, 1)}
			if slices.Contains(stand, spare) {
				continue
			}
			for block := range g.Blocks {
				if block == spare || marked && slices.Contains(stand, block) {
					continue
				}
				if marked {
					is(t, "Mark", c.Mark(block), api.OK)
				} else {
					c.Weak(block)
				}
			}
			changed(t, s, 0, some(17, 3))
			reads(t, s, 0, some(17, 3), 0)
			reads(t, s, 1, []byte("y"), 0)
			s = opened(t, d, 2)
			reads(t, s, 0, some(17, 3), 0)
			reads(t, s, 1, []byte("y"), 0)
		}
	}
}

// P11.1: without power a call that asks the drive answers ErrDown, and so the store is down for ever, with power again too; what does not ask it is answered as ever. Opened anew, all is there.
func TestDown(t *testing.T) {
	first := []func(s *store.Store) api.Errno{
		func(s *store.Store) api.Errno { _, _, err := s.Read(0); return err },
		func(s *store.Store) api.Errno { return s.Change(0, []byte("z")) },
		func(s *store.Store) api.Errno { return s.Change(1, nil) },
		func(s *store.Store) api.Errno { return s.Unmap(0) },
	}
	for i, call := range first {
		c, d := made(t, small())
		s := opened(t, d, 2)
		changed(t, s, 0, []byte("x"))
		c.Off()
		if !s.Has(0) || s.Has(1) {
			t.Fatal("no call answered ErrDown yet")
		}
		unread(t, s, 1, api.ErrNone)
		is(t, "Unmap", s.Unmap(1), api.OK)
		is(t, "the call", call(s), api.ErrDown)
		for _, power := range []func(){c.On, c.Off, c.On} {
			power()
			down(t, s)
		}
		if s.Lebs() != 2 || s.Cap() != 48 {
			t.Fatalf("call %d: Lebs() = %d, Cap() = %d", i, s.Lebs(), s.Cap())
		}
		s = opened(t, d, 2)
		reads(t, s, 0, []byte("x"), 0)
		without(t, s, 1)
	}
}

// down holds every call of a store to ErrDown, those with wrong arguments too.
func down(t *testing.T, s *store.Store) {
	t.Helper()
	for _, leb := range []int{0, 1, 2, -1, 64, math.MaxInt} {
		unread(t, s, leb, api.ErrDown)
		is(t, "Change", s.Change(leb, []byte("z")), api.ErrDown)
		is(t, "Change", s.Change(leb, make([]byte, 1000)), api.ErrDown)
		is(t, "Unmap", s.Unmap(leb), api.ErrDown)
		if s.Has(leb) {
			t.Fatalf("down, and Has(%d)", leb)
		}
	}
}

// P11.1: the power goes and comes again between two calls: the store goes on.
func TestPowerBetween(t *testing.T) {
	c, d := made(t, small())
	s := opened(t, d, 2)
	changed(t, s, 0, []byte("x"))
	c.Off()
	c.On()
	reads(t, s, 0, []byte("x"), 0)
	changed(t, s, 0, []byte("y"))
	reads(t, s, 0, []byte("y"), 0)
}

// P11.1: with no power, and only marked blocks beside those that stand, Change asks the drive and is told.
func TestDownMarked(t *testing.T) {
	c, d := made(t, shape(2, 2, 1, 16, 1), 0)
	s := opened(t, d, 2)
	changed(t, s, 0, []byte("x"))
	is(t, "Change", s.Change(1, nil), api.ErrFull)
	c.Off()
	is(t, "Change", s.Change(1, nil), api.ErrDown)
	c.On()
	is(t, "Change", s.Change(1, nil), api.ErrDown)
	reads(t, opened(t, d, 2), 0, []byte("x"), 0)
}

// P11.4: what was taken away does not come again, however often it was changed before, and other logical blocks are as they were.
func TestUnmap(t *testing.T) {
	g := shape(8, 3, 1, 16, 1)
	for times := 1; times <= 6; times++ {
		c, d := made(t, g)
		s := opened(t, d, 3)
		changed(t, s, 1, []byte("other"))
		for i := range times {
			changed(t, s, 0, some(i, i))
		}
		is(t, "Unmap", s.Unmap(0), api.OK)
		without(t, s, 0)
		for _, f := range scan(t, d) {
			if f.Head.Leb == 0 {
				t.Fatalf("block %d was not erased", f.Block)
			}
		}
		reads(t, s, 1, []byte("other"), 0)
		c.Arm(1, 0)
		is(t, "Unmap again", s.Unmap(0), api.OK)
		is(t, "Unmap of none", s.Unmap(2), api.OK)
		c.Arm(0, 0)
		s = opened(t, d, 3)
		without(t, s, 0)
		reads(t, s, 1, []byte("other"), 0)
		changed(t, s, 0, []byte("again"))
		reads(t, s, 0, []byte("again"), 0)
	}
}

// rows are blocks of logical block 0 in an order that is not that of their numbers, with others among them: 5 stands, 3, 6 and 1 are stale.
func rows(t *testing.T) (*chip.Chip, *drive.Drive) {
	t.Helper()
	c, d := made(t, shape(8, 3, 1, 16, 1))
	write(t, d, 1, api.Head{Leb: 0, Bytes: 1, Number: 12}, []byte("c"))
	write(t, d, 2, api.Head{Leb: 1, Bytes: 1, Number: 11}, []byte("o"))
	write(t, d, 3, api.Head{Leb: 0, Bytes: 1, Number: 4}, []byte("a"))
	write(t, d, 4, api.Head{Leb: 0, Bytes: 17, Number: 40}, []byte("not whole"))
	write(t, d, 5, api.Head{Leb: 0, Bytes: 1, Number: 20}, []byte("d"))
	write(t, d, 6, api.Head{Leb: 0, Bytes: 1, Number: 9}, []byte("b"))
	return c, d
}

// blocks are those in which something is found.
func blocks(t *testing.T, d *drive.Drive) []int {
	t.Helper()
	var out []int
	for _, f := range scan(t, d) {
		out = append(out, f.Block)
	}
	return out
}

// P11.4: the other whole blocks are erased by layer 10's order, the one that stands last; those that are not whole, and those of other logical blocks, are left alone.
func TestUnmapOrder(t *testing.T) {
	for deed, left := range [][]int{{1, 2, 3, 4, 5, 6}, {1, 2, 4, 5, 6}, {1, 2, 4, 5}, {2, 4, 5}} {
		c, d := rows(t)
		s := opened(t, d, 2)
		c.Arm(deed+1, 0)
		is(t, "Unmap", s.Unmap(0), api.ErrDown)
		c.On()
		down(t, s)
		if got := blocks(t, d); !slices.Equal(got, left) {
			t.Fatalf("deed %d: %v are left, want %v", deed, got, left)
		}
		reads(t, opened(t, d, 2), 0, []byte("d"), 0)
	}
	c, d := rows(t)
	s := opened(t, d, 2)
	c.Arm(5, 0)
	is(t, "Unmap", s.Unmap(0), api.OK)
	if got := blocks(t, d); !slices.Equal(got, []int{2, 4}) {
		t.Fatalf("%v are left", got)
	}
	is(t, "the fifth deed", c.Burn(0), api.ErrDown)
}

// P11.4: blocks that fail are marked, and count as erased: whichever of them does.
func TestUnmapWeak(t *testing.T) {
	for set := range 16 {
		c, d := rows(t)
		var weak []int
		for i, block := range []int{1, 3, 5, 6} {
			if set>>i&1 == 1 {
				c.Weak(block)
				weak = append(weak, block)
			}
		}
		s := opened(t, d, 2)
		is(t, "Unmap", s.Unmap(0), api.OK)
		for block := range 8 {
			if c.Bad(block) != slices.Contains(weak, block) {
				t.Fatalf("weak are %v: Bad(%d) = %v", weak, block, c.Bad(block))
			}
		}
		for range 2 {
			without(t, s, 0)
			reads(t, s, 1, []byte("o"), 0)
			s = opened(t, d, 2)
		}
	}
}

// P11.4: a block that stands, and that others marked, counts as erased.
func TestUnmapMarked(t *testing.T) {
	c, d := rows(t)
	s := opened(t, d, 2)
	is(t, "Mark", c.Mark(5), api.OK)
	is(t, "Mark", c.Mark(6), api.OK)
	is(t, "Unmap", s.Unmap(0), api.OK)
	without(t, s, 0)
	without(t, opened(t, d, 2), 0)
}

// P11.4: all other whole blocks go, also while the one that stands can't be read, and if the newest could not be when the store was opened: none of them comes again.
func TestUnmapUnreadable(t *testing.T) {
	c, d := rows(t)
	s := opened(t, d, 2)
	c.Flip(5, 0, tooMany(t, c, 5, 0))
	is(t, "Unmap", s.Unmap(0), api.OK)
	without(t, s, 0)
	without(t, opened(t, d, 2), 0)
	reads(t, opened(t, d, 2), 1, []byte("o"), 0)
	c, d = rows(t)
	c.Flip(5, 0, tooMany(t, c, 5, 0))
	s = opened(t, d, 2)
	reads(t, s, 0, []byte("c"), 0)
	c.Flip(5, 0, nil)
	is(t, "Unmap", s.Unmap(0), api.OK)
	without(t, s, 0)
	without(t, opened(t, d, 2), 0)
	reads(t, opened(t, d, 2), 1, []byte("o"), 0)
}

// P11.4: of tied blocks too, the one that stands goes last.
func TestUnmapTied(t *testing.T) {
	c, d := made(t, small())
	write(t, d, 4, api.Head{Leb: 0, Bytes: 1, Number: 3}, []byte("b"))
	write(t, d, 2, api.Head{Leb: 0, Bytes: 1, Number: 3}, []byte("a"))
	s := opened(t, d, 1)
	reads(t, s, 0, []byte("a"), 0)
	c.Arm(2, 0)
	is(t, "Unmap", s.Unmap(0), api.ErrDown)
	c.On()
	s = opened(t, d, 1)
	reads(t, s, 0, []byte("a"), 0)
	is(t, "Unmap", s.Unmap(0), api.OK)
	without(t, opened(t, d, 1), 0)
}

// scene is a chip with some logical blocks on it, made by the same calls each time: of 0 there are old blocks, 1 was taken away, some spare blocks are weak.
type scene struct {
	g    api.Geometry
	weak []int
	want map[int][]byte
}

// scenes are unlike ones.
func scenes() []scene {
	return []scene{
		{g: shape(5, 4, 1, 16, 1)},
		{g: shape(6, 3, 2, 8, 2), weak: []int{0, 1, 2}},
		{g: shape(7, 2, 1, 16, 1), weak: []int{5, 6, 3, 4}},
		{g: shape(4, 4, 1, 20, 1), weak: []int{2}},
	}
}

// play makes it. What is weak of its blocks is so when all is written.
func (x *scene) play(t *testing.T) (*chip.Chip, *drive.Drive, *store.Store) {
	t.Helper()
	c, d := made(t, x.g)
	s := opened(t, d, 4)
	x.want = map[int][]byte{0: some(most(x.g), 7), 2: some(3, 8)}
	changed(t, s, 0, some(1, 1))
	changed(t, s, 1, some(2, 2))
	is(t, "Unmap", s.Unmap(1), api.OK)
	changed(t, s, 2, x.want[2])
	changed(t, s, 0, some(room(x.g), 3))
	changed(t, s, 0, x.want[0])
	for _, block := range x.weak {
		c.Weak(block)
	}
	return c, d, s
}

// holds fails if a logical block has not what the scene says; the one that is excepted may have other bytes, too, or none, if these are nil.
func (x *scene) holds(t *testing.T, s *store.Store, name string, leb int, other []byte) {
	t.Helper()
	for i := range 4 {
		want, has := x.want[i]
		got, _, err := s.Read(i)
		same := has && err == api.OK && bytes.Equal(got, want) || !has && err == api.ErrNone
		made := i == leb && (other == nil && err == api.ErrNone || other != nil && err == api.OK && bytes.Equal(got, other))
		if !same && !made {
			t.Fatalf("%s: Read(%d) = % x, %d", name, i, got, err)
		}
	}
}

// each lets the power go in each deed of a call, behind each byte or page of it, and holds what is there behind it against the scene; then the store is used on. Where the power does not go, the call must have been answered by OK.
func (x *scene) each(t *testing.T, name string, leb int, other []byte, call func(s *store.Store) api.Errno) {
	t.Helper()
	for n := 1; ; n++ {
		for keep := 0; keep <= long(x.g); keep++ {
			c, d, s := x.play(t)
			c.Arm(n, keep)
			err := call(s)
			if c.Up() {
				is(t, name, err, api.OK)
				if n < 2 {
					t.Fatalf("%s: no deed", name)
				}
				return
			}
			is(t, name, err, api.ErrDown)
			c.On()
			down(t, s)
			s = opened(t, d, 4)
			x.holds(t, s, name, leb, other)
			for _, more := range []int{leb, 3} {
				if s.Change(more, some(9, 60)) == api.OK {
					x.want[more] = some(9, 60)
				}
				x.holds(t, s, name, leb, other)
				is(t, "Unmap", s.Unmap(more), api.OK)
				delete(x.want, more)
				x.holds(t, s, name, leb, nil)
				x.holds(t, opened(t, d, 4), name, leb, nil)
			}
		}
	}
}

// P11.6: the power goes in any deed of a Change, of a logical block with bytes or without.
func TestCutChange(t *testing.T) {
	for _, x := range scenes() {
		for leb := range 3 {
			for _, data := range [][]byte{{}, some(1, 50), some(most(x.g), 51)} {
				x.each(t, "Change", leb, data, func(s *store.Store) api.Errno { return s.Change(leb, data) })
			}
		}
	}
}

// P11.6: the power goes in any deed of an Unmap.
func TestCutUnmap(t *testing.T) {
	for _, x := range scenes() {
		for _, leb := range []int{0, 2} {
			x.each(t, "Unmap", leb, nil, func(s *store.Store) api.Errno { return s.Unmap(leb) })
		}
	}
}

// P11.3: a Change's deeds are an erasure, the head's page and those of the bytes, no more; Read, Has, Lebs, Cap and Open are none.
func TestDeeds(t *testing.T) {
	g := small()
	for n := range most(g) + 1 {
		var s *store.Store
		got := deeds(t, func() *chip.Chip {
			c, d := made(t, g)
			s = opened(t, d, 2)
			changed(t, s, 0, []byte("x"))
			return c
		}, func() { s.Change(0, make([]byte, n)) })
		if want := 2 + (n+15)/16; got != want {
			t.Fatalf("Change of %d bytes: %d deeds, want %d", n, got, want)
		}
	}
	c, d := made(t, g)
	s := opened(t, d, 2)
	changed(t, s, 0, []byte("x"))
	before := raws(t, c)
	c.Arm(1, 0)
	for range 3 {
		reads(t, s, 0, []byte("x"), 0)
		without(t, s, 1)
		if s.Lebs() != 2 || s.Cap() != 48 {
			t.Fatalf("Lebs() = %d, Cap() = %d", s.Lebs(), s.Cap())
		}
		s = opened(t, d, 2)
	}
	if !c.Up() || !slices.EqualFunc(raws(t, c), before, bytes.Equal) {
		t.Fatal("a reading was a deed")
	}
}

// R2: bytes that are handed in are neither kept nor written into, nor their spare room; those that come out are new memory.
func TestMemory(t *testing.T) {
	g := small()
	for n := range most(g) + 1 {
		_, d := made(t, g)
		s := opened(t, d, 1)
		roomy := some(100, n)
		before := slices.Clone(roomy)
		changed(t, s, 0, roomy[:n])
		if !bytes.Equal(roomy, before) {
			t.Fatal("what was handed in is written into")
		}
		for i := range roomy {
			roomy[i] ^= 0x5a
		}
		reads(t, s, 0, before[:n], 0)
		got, _, _ := s.Read(0)
		got = got[:cap(got)]
		for i := range got {
			got[i] ^= 0x5a
		}
		reads(t, s, 0, before[:n], 0)
	}
}

// R2: stores on unlike chips know nothing of each other.
func TestTwoStores(t *testing.T) {
	_, one := made(t, small())
	_, two := made(t, small())
	s, other := opened(t, one, 1), opened(t, two, 1)
	changed(t, s, 0, []byte("x"))
	without(t, other, 0)
	changed(t, other, 0, []byte("y"))
	reads(t, s, 0, []byte("x"), 0)
	is(t, "Unmap", s.Unmap(0), api.OK)
	reads(t, other, 0, []byte("y"), 0)
}

// P11.5: all logical blocks that may be, on a chip that has one block more: each is changed again and again.
func TestAllLebs(t *testing.T) {
	g := shape(65, 2, 1, 16, 1)
	_, d := made(t, g)
	s := opened(t, d, 64)
	for round := range 3 {
		for leb := range 64 {
			changed(t, s, leb, some(leb%17, leb+round))
		}
		for leb := range 64 {
			reads(t, s, leb, some(leb%17, leb+round), 0)
		}
	}
	s = opened(t, d, 64)
	for leb := range 64 {
		reads(t, s, leb, some(leb%17, leb+2), 0)
	}
}

// P11.2, P11.3: the greatest chip, and the most bytes.
func TestGreatest(t *testing.T) {
	g := shape(256, 64, 8, 512, 8)
	_, d := made(t, g)
	s := opened(t, d, 64)
	data := some(most(g), 1)
	changed(t, s, 63, data)
	reads(t, s, 63, data, 0)
	is(t, "Change", s.Change(63, make([]byte, most(g)+1)), api.ErrLong)
	s = opened(t, d, 64)
	reads(t, s, 63, data, 0)
	is(t, "Unmap", s.Unmap(63), api.OK)
	without(t, opened(t, d, 64), 63)
}

// wear turns bits of all pages of a chip, in each sector at most as many as may be.
func wear(source *rand.Rand, c *chip.Chip) {
	g := c.Geometry()
	for block := range g.Blocks {
		for at := range g.Pages {
			var places []int
			for sector := range g.Sectors {
				for _, place := range source.Perm(8 * apart(g))[:source.Intn(g.Flips+1)] {
					places = append(places, 8*sector*apart(g)+place)
				}
			}
			c.Flip(block, at, places)
		}
	}
}

// plain is a store without a chip: bytes by logical block.
type plain map[int][]byte

// alike holds a store against it.
func (p plain) alike(t *testing.T, s *store.Store, step int) {
	t.Helper()
	for leb := range s.Lebs() {
		want, has := p[leb]
		wantErr := api.ErrNone
		if has {
			wantErr = api.OK
		}
		if got, _, err := s.Read(leb); !bytes.Equal(got, want) || err != wantErr || s.Has(leb) != has {
			t.Fatalf("step %d: Read(%d) = % x, %d, Has %v; want % x, %d", step, leb, got, err, s.Has(leb), want, wantErr)
		}
	}
}

// settle takes what a logical block has behind a cut, which is what it had, or what the call was to make of it.
func (p plain) settle(t *testing.T, s *store.Store, leb int, data []byte, step int) {
	t.Helper()
	got, _, err := s.Read(leb)
	was, had := p[leb]
	switch {
	case had && err == api.OK && bytes.Equal(got, was), !had && err == api.ErrNone:
	case data != nil && err == api.OK && bytes.Equal(got, data):
		p[leb] = data
	case data == nil && err == api.ErrNone:
		delete(p, leb)
	default:
		t.Fatalf("step %d: behind a cut Read(%d) = % x, %d; it had % x", step, leb, got, err, was)
	}
}

// free is how many blocks more than the plain store's logical blocks are neither marked nor weak.
func (p plain) free(d *drive.Drive, weak []int) int {
	n := -len(p)
	for _, block := range d.Good() {
		if !slices.Contains(weak, block) {
			n++
		}
	}
	return n
}

// P11.5, P11.6, T1, T2: long rows of calls, with few enough bits read wrongly, blocks that become weak, and the power going in any deed, held against logical blocks without a chip.
func TestLongRows(t *testing.T) {
	source := rand.New(rand.NewSource(1102))
	cuts, fulls := 0, 0
	for _, g := range []api.Geometry{shape(7, 3, 1, 16, 1), shape(9, 4, 2, 8, 2), shape(12, 2, 1, 20, 3)} {
		for range 6 {
			c, d := made(t, g, source.Intn(g.Blocks))
			s := opened(t, d, 5)
			p := plain{}
			var weak []int
			for step := range 150 {
				if source.Intn(40) == 0 {
					weak = append(weak, source.Intn(g.Blocks))
					c.Weak(weak[len(weak)-1])
				}
				wear(source, c)
				c.Arm(source.Intn(25), source.Intn(long(g)+2))
				leb := source.Intn(5)
				enough := p.free(d, weak) > 0
				var data []byte
				var err api.Errno
				if source.Intn(4) == 0 {
					err = s.Unmap(leb)
				} else {
					data = some(source.Intn(most(g)+1), step)
					err = s.Change(leb, data)
				}
				switch {
				case err == api.OK && data == nil:
					delete(p, leb)
				case err == api.OK:
					p[leb] = data
				case err == api.ErrDown:
					cuts++
					c.On()
					s = opened(t, d, 5)
					p.settle(t, s, leb, data, step)
				case err == api.ErrFull && data != nil && !enough:
					fulls++
				default:
					t.Fatalf("step %d: the error %d", step, err)
				}
				c.Arm(0, 0)
				wear(source, c)
				if source.Intn(10) == 0 {
					s = opened(t, d, 5)
				}
				p.alike(t, s, step)
			}
		}
	}
	if cuts < 50 || fulls < 5 {
		t.Fatalf("%d cuts, %d times full: other rows of calls are needed", cuts, fulls)
	}
}
