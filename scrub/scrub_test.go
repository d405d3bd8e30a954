package scrub_test

import (
	"bytes"
	"math"
	"math/rand"
	"slices"
	"testing"

	"casemate/api"
	"casemate/attach"
	"casemate/chip"
	"casemate/drive"
	"casemate/ecc"
	"casemate/head"
	"casemate/scrub"
	"casemate/store"
)

// mostNumber is the greatest number of a writing.
const mostNumber = 1000000000

// low are limits that may not be.
var low = []int{0, -1, -2, -8, -64, math.MinInt32, math.MinInt, math.MinInt + 1}

// outside are numbers of no logical block.
var outside = []int{-1, -2, -64, 64, 65, 256, 1 << 31, 1 << 32, 1<<32 + 1, math.MinInt, math.MaxInt, math.MinInt32, math.MaxInt32}

// shape is a geometry of these numbers.
func shape(blocks, pages, sectors, size, flips int) api.Geometry {
	return api.Geometry{Blocks: blocks, Pages: pages, Sectors: sectors, Bytes: size, Flips: flips}
}

// small has pages of 16 data bytes: a logical block has 48 bytes, and 2 bits of a page may be read wrongly.
func small() api.Geometry { return shape(6, 4, 1, 16, 2) }

// room is how many data bytes a page has.
func room(g api.Geometry) int { return g.Sectors * g.Bytes }

// most is how many bytes a logical block may have.
func most(g api.Geometry) int { return (g.Pages - 1) * room(g) }

// apart is how many raw bytes a sector takes, with its more bytes.
func apart(g api.Geometry) int { return g.Bytes + (13*g.Flips+7)/8 }

// long is how many raw bytes a page has.
func long(g api.Geometry) int { return g.Sectors*apart(g) + 1 }

// some makes bytes, unlike for unlike seeds.
func some(n, seed int) []byte {
	p := make([]byte, n)
	for i := range p {
		p[i] = byte(41*seed + 7*i + i/251 + 1)
	}
	return p
}

// is holds an error against the one that is asked for.
func is(t *testing.T, name string, got, want api.Errno) {
	t.Helper()
	if got != want {
		t.Fatalf("%s = %d, want %d", name, got, want)
	}
}

// rig is a chip with what stands on it.
type rig struct {
	c *chip.Chip
	d *drive.Drive
	s *store.Store
}

// made is a rig of an empty chip.
func made(t *testing.T, g api.Geometry, lebs int, bad ...int) *rig {
	t.Helper()
	c, err := chip.New(g, bad)
	is(t, "chip.New", err, api.OK)
	d, err := drive.New(c)
	is(t, "drive.New", err, api.OK)
	r := &rig{c: c, d: d}
	r.open(t, lebs)
	return r
}

// open opens the store anew.
func (r *rig) open(t *testing.T, lebs int) {
	t.Helper()
	s, err := store.Open(r.d, lebs)
	is(t, "store.Open", err, api.OK)
	r.s = s
}

// change is a Change where no error may come.
func (r *rig) change(t *testing.T, leb int, data []byte) {
	t.Helper()
	is(t, "Change", r.s.Change(leb, data), api.OK)
}

// block is the one that stands for a logical block, by what is on the chip.
func (r *rig) block(t *testing.T, leb int) int {
	t.Helper()
	found, err := attach.Scan(r.d)
	is(t, "Scan", err, api.OK)
	blocks, _, err := attach.Pick(api.MaxLebs, found)
	is(t, "Pick", err, api.OK)
	return blocks[leb]
}

// wear turns n bits of a sector of a page of a logical block's block, and none beside them in that page.
func (r *rig) wear(t *testing.T, leb, at, sector, n int) {
	t.Helper()
	var places []int
	for i := range n {
		places = append(places, 8*sector*apart(r.c.Geometry())+1+3*i)
	}
	r.c.Flip(r.block(t, leb), at, places)
}

// ruin turns bits of a page of a logical block's block that are too many for the code.
func (r *rig) ruin(t *testing.T, leb, at int) {
	t.Helper()
	source := rand.New(rand.NewSource(1201))
	g := r.c.Geometry()
	block := r.block(t, leb)
	raw, err := r.c.Read(block, at)
	is(t, "chip.Read", err, api.OK)
	for range 1000 {
		places := source.Perm(8 * g.Bytes)[:g.Flips+1]
		turned := slices.Clone(raw)
		for _, place := range places {
			turned[place/8] ^= 1 << (place % 8)
		}
		if _, _, err := ecc.Read(g, turned); err == api.ErrFlips {
			r.c.Flip(block, at, places)
			return
		}
	}
	t.Fatal("no such bits were found")
}

// write lays a head and a page behind it on an erased block.
func (r *rig) write(t *testing.T, block int, h api.Head, data []byte) {
	t.Helper()
	first, err := head.Bytes(r.c.Geometry(), h)
	is(t, "head.Bytes", err, api.OK)
	is(t, "Write", r.d.Write(block, 0, first), api.OK)
	page := make([]byte, room(r.c.Geometry()))
	copy(page, data)
	is(t, "Write", r.d.Write(block, 1, page), api.OK)
}

// raws is all that is read of the chip, and its marks.
func (r *rig) raws(t *testing.T) []byte {
	t.Helper()
	var out []byte
	for block := range r.c.Geometry().Blocks {
		if r.c.Bad(block) {
			out = append(out, 'b')
		}
		for page := range r.c.Geometry().Pages {
			raw, err := r.c.Read(block, page)
			is(t, "chip.Read", err, api.OK)
			out = append(out, raw...)
		}
	}
	return out
}

// still fails if a call is a deed, or changes the chip.
func (r *rig) still(t *testing.T, call func()) {
	t.Helper()
	before := r.raws(t)
	r.c.Arm(1, 0)
	call()
	if !r.c.Up() || !bytes.Equal(before, r.raws(t)) {
		t.Fatal("the chip was changed")
	}
	r.c.Arm(0, 0)
}

// reads fails if a logical block does not have just these bytes, with so many bits put right.
func (r *rig) reads(t *testing.T, leb int, want []byte, flips int) {
	t.Helper()
	if got, n, err := r.s.Read(leb); !bytes.Equal(got, want) || n != flips || err != api.OK {
		t.Fatalf("Read(%d) = % x, %d, %d; want % x, %d", leb, got, n, err, want, flips)
	}
}

// worn fails if Worn does not tell just these.
func (r *rig) worn(t *testing.T, limit int, want ...int) {
	t.Helper()
	if got, err := scrub.Worn(r.s, limit); !slices.Equal(got, want) || err != api.OK {
		t.Fatalf("Worn(.., %d) = %v, %d, want %v", limit, got, err, want)
	}
}

// all fails if All does not move just these, and end so.
func (r *rig) all(t *testing.T, limit int, want api.Errno, moved ...int) {
	t.Helper()
	if got, err := scrub.All(r.s, limit); !slices.Equal(got, moved) || err != want {
		t.Fatalf("All(.., %d) = %v, %d, want %v, %d", limit, got, err, moved, want)
	}
}

// refused fails if Worn and All do not answer this error, and nothing beside it.
func refused(t *testing.T, s *store.Store, limit int, want api.Errno) {
	t.Helper()
	if got, err := scrub.Worn(s, limit); len(got) != 0 || err != want {
		t.Fatalf("Worn(.., %d) = %v, %d; want the error %d alone", limit, got, err, want)
	}
	if got, err := scrub.All(s, limit); len(got) != 0 || err != want {
		t.Fatalf("All(.., %d) = %v, %d; want the error %d alone", limit, got, err, want)
	}
}

// The chapter's examples, and the document's fifth one.
func TestExamples(t *testing.T) {
	r := made(t, small(), 3)
	r.change(t, 0, []byte("first"))
	r.change(t, 1, []byte("second"))
	r.wear(t, 1, 1, 0, 1)
	r.worn(t, 1, 1)
	r.all(t, 1, api.OK, 1)
	r.worn(t, 1)
	r.reads(t, 0, []byte("first"), 0)
	r.reads(t, 1, []byte("second"), 0)
	if got, err := scrub.Worn(nil, 1); len(got) != 0 || err != api.ErrNil {
		t.Fatalf("Worn(nil, 1) = %v, %d", got, err)
	}
	if got, err := scrub.Worn(r.s, 0); len(got) != 0 || err != api.ErrArg {
		t.Fatalf("Worn(a store, 0) = %v, %d", got, err)
	}
}

// P12.1, P12.2: a store that is nil, ahead of all else.
func TestNil(t *testing.T) {
	for _, limit := range append([]int{1, 2, 8, math.MaxInt}, low...) {
		refused(t, nil, limit, api.ErrNil)
	}
	for _, leb := range append([]int{0, 1, 63}, outside...) {
		is(t, "Move(nil, ..)", scrub.Move(nil, leb), api.ErrNil)
	}
}

// P12.1, P12.2: a limit below 1, with power, without, and of a store that is down: nothing is read or moved.
func TestLowLimit(t *testing.T) {
	r := made(t, small(), 2)
	r.change(t, 0, []byte("x"))
	r.wear(t, 0, 0, 0, 2)
	for _, limit := range low {
		r.still(t, func() { refused(t, r.s, limit, api.ErrArg) })
		r.c.Off()
		refused(t, r.s, limit, api.ErrArg)
		r.c.On()
		r.reads(t, 0, []byte("x"), 2)
	}
	r.c.Off()
	refused(t, r.s, 1, api.ErrDown)
	refused(t, r.s, 0, api.ErrArg)
}

// P12.1: limit or more bits put right in one sector, of the first page or of one with bytes; bits in several sectors are not summed, and pages behind the bytes do not count.
func TestWornLimit(t *testing.T) {
	for _, g := range []api.Geometry{small(), shape(4, 5, 2, 16, 3), shape(3, 4, 1, 16, 8), shape(4, 4, 4, 8, 2)} {
		r := made(t, g, 2)
		r.change(t, 1, some(room(g)+1, 1))
		for at := range 3 {
			for sector := range g.Sectors {
				for n := range g.Flips + 1 {
					r.wear(t, 1, at, sector, n)
					for limit := 1; limit <= n; limit++ {
						r.worn(t, limit, 1)
					}
					for _, limit := range []int{n + 1, n + 2, g.Flips + 1, 9, math.MaxInt32, math.MaxInt} {
						r.worn(t, limit)
					}
				}
				r.wear(t, 1, (at+1)%3, 0, g.Flips)
				r.worn(t, g.Flips, 1)
				r.worn(t, g.Flips+1)
				r.wear(t, 1, (at+1)%3, 0, 0)
				r.wear(t, 1, at, 0, 0)
			}
		}
		r.wear(t, 1, 3, 0, g.Flips)
		r.worn(t, 1)
	}
}

// P12.1: one bit in each sector of a page is one bit of a sector, not many.
func TestWornApart(t *testing.T) {
	g := shape(3, 3, 4, 8, 2)
	r := made(t, g, 1)
	r.change(t, 0, some(most(g), 1))
	var places []int
	for sector := range g.Sectors {
		places = append(places, 8*sector*apart(g)+5)
	}
	for at := range g.Pages {
		r.c.Flip(r.block(t, 0), at, places)
	}
	r.worn(t, 1, 0)
	r.worn(t, 2)
	r.all(t, 2, api.OK)
	r.all(t, 1, api.OK, 0)
	r.worn(t, 1)
}

// P12.1: those that are told are rising, whatever blocks they are on; those without a block, those that can't be read, and those without a flipped bit are not among them.
func TestWornWhich(t *testing.T) {
	r := made(t, shape(12, 4, 1, 16, 2), 8)
	for i, leb := range []int{6, 3, 7, 0, 4, 1, 5} {
		r.change(t, leb, some(7*i, leb))
	}
	r.worn(t, 1)
	for leb, n := range map[int]int{7: 2, 6: 1, 3: 2, 1: 1} {
		r.wear(t, leb, 0, 0, n)
	}
	r.worn(t, 1, 1, 3, 6, 7)
	r.worn(t, 2, 3, 7)
	r.ruin(t, 0, 0)
	r.ruin(t, 5, 2)
	r.wear(t, 5, 0, 0, 2)
	is(t, "Mark", r.c.Mark(r.block(t, 7)), api.OK)
	is(t, "Unmap", r.s.Unmap(3), api.OK)
	r.worn(t, 1, 1, 6)
	r.worn(t, 2)
	r.still(t, func() { r.worn(t, 1, 1, 6) })
}

// P12.1: the flipped bits of a block that stands for no logical block do not count, nor those of a logical block that the store does not have.
func TestWornElsewhere(t *testing.T) {
	g := small()
	r := made(t, g, 2)
	r.change(t, 0, some(20, 1))
	r.change(t, 0, some(21, 2))
	r.change(t, 1, some(22, 3))
	own := []int{r.block(t, 0), r.block(t, 1)}
	for block := range g.Blocks {
		for at := range g.Pages {
			if !slices.Contains(own, block) {
				r.c.Flip(block, at, []int{1, 4})
			}
		}
	}
	r.worn(t, 1)
	r.wear(t, 1, 1, 0, 2)
	r.worn(t, 1, 1)
	r.open(t, 1)
	r.worn(t, 1)
	r.all(t, 1, api.OK)
	r.open(t, 2)
	r.all(t, 1, api.OK, 1)
	r.worn(t, 1)
	r.reads(t, 0, some(21, 2), 0)
	r.reads(t, 1, some(22, 3), 0)
}

// P12.1: a store without bytes has nothing worn, whatever the limit is.
func TestWornEmpty(t *testing.T) {
	for _, lebs := range []int{1, 2, 63, 64} {
		r := made(t, small(), lebs)
		for _, limit := range []int{1, 2, 8, math.MaxInt} {
			r.still(t, func() {
				r.worn(t, limit)
				r.all(t, limit, api.OK)
			})
		}
	}
}

// P12.1, P12.2: without power: ErrDown alone, if a Read asks the drive, wherever the logical block is; then the store is down for ever, with power again too. Opened anew, all is there.
func TestDown(t *testing.T) {
	for leb := range 3 {
		for _, call := range []func(s *store.Store) ([]int, api.Errno){
			func(s *store.Store) ([]int, api.Errno) { return scrub.Worn(s, 1) },
			func(s *store.Store) ([]int, api.Errno) { return scrub.All(s, 1) },
			func(s *store.Store) ([]int, api.Errno) { return scrub.Worn(s, math.MaxInt) },
			func(s *store.Store) ([]int, api.Errno) { return nil, scrub.Move(s, leb) },
		} {
			r := made(t, small(), 3)
			r.change(t, leb, some(20, 1))
			r.wear(t, leb, 0, 0, 1)
			r.c.Off()
			if got, err := call(r.s); len(got) != 0 || err != api.ErrDown {
				t.Fatalf("without power: %v, %d", got, err)
			}
			for _, power := range []func(){r.c.On, r.c.Off, r.c.On} {
				power()
				refused(t, r.s, 1, api.ErrDown)
				for other := range 3 {
					is(t, "Move", scrub.Move(r.s, other), api.ErrDown)
				}
			}
			r.open(t, 3)
			r.reads(t, leb, some(20, 1), 1)
			r.all(t, 1, api.OK, leb)
			r.reads(t, leb, some(20, 1), 0)
		}
	}
}

// P12.1: without power, and no logical block of which the drive is asked: no Read answers ErrDown.
func TestDownUnasked(t *testing.T) {
	r := made(t, small(), 3)
	r.c.Off()
	r.worn(t, 1)
	r.all(t, 1, api.OK)
	is(t, "Move", scrub.Move(r.s, 0), api.ErrNone)
	r.c.On()
	r.change(t, 0, []byte("x"))
	r.reads(t, 0, []byte("x"), 0)
}

// P12.2: a logical block of each number of bytes is written anew, flipped bits or none: on another block, with a number above all that were used, by an erasure, the head's page and those of the bytes.
func TestMove(t *testing.T) {
	for _, g := range []api.Geometry{small(), shape(3, 2, 1, 16, 1), shape(4, 5, 3, 20, 3)} {
		for _, n := range []int{0, 1, room(g) - 1, room(g), room(g) + 1, most(g) - 1, most(g)} {
			if n > most(g) {
				continue
			}
			for flips := range g.Flips + 1 {
				r := made(t, g, 2)
				r.change(t, 0, some(5, 4))
				r.change(t, 1, some(n, 3))
				old, other := r.block(t, 1), r.block(t, 0)
				r.wear(t, 1, 0, 0, flips)
				r.c.Arm(3+(n+room(g)-1)/room(g), 1)
				is(t, "Move", scrub.Move(r.s, 1), api.OK)
				is(t, "the next deed", r.c.Burn(0), api.ErrDown)
				r.c.On()
				if now := r.block(t, 1); now == old || r.block(t, 0) != other {
					t.Fatalf("block %d was to move to another one: %d; and block %d not: %d", old, now, other, r.block(t, 0))
				}
				for range 2 {
					r.reads(t, 1, some(n, 3), 0)
					r.reads(t, 0, some(5, 4), 0)
					r.open(t, 2)
				}
			}
		}
	}
}

// P12.2: the error of Read, and no deed: no such logical block, none that stands, too many flipped bits, and what else the drive says.
func TestMoveUnread(t *testing.T) {
	g := small()
	r := made(t, g, 3)
	r.change(t, 0, some(20, 1))
	r.change(t, 1, some(30, 2))
	refuse := func(leb int, want api.Errno) {
		t.Helper()
		r.still(t, func() { is(t, "Move", scrub.Move(r.s, leb), want) })
		r.still(t, func() { r.all(t, 1, api.OK) })
	}
	for _, leb := range append([]int{3, 4, 63}, outside...) {
		refuse(leb, api.ErrArg)
	}
	refuse(2, api.ErrNone)
	own := r.block(t, 0)
	for at := range 3 {
		r.ruin(t, 0, at)
		refuse(0, api.ErrFlips)
		r.c.Flip(own, at, nil)
	}
	torn := append(bytes.Repeat([]byte{0}, long(g)-1), 0x01)
	is(t, "Force", r.c.Force(own, 2, torn), api.OK)
	refuse(0, api.ErrTorn)
	is(t, "Erase", r.c.Erase(own), api.OK)
	refuse(0, api.ErrBlank)
	is(t, "Mark", r.c.Mark(own), api.OK)
	refuse(0, api.ErrBad)
	r.reads(t, 1, some(30, 2), 0)
}

// P12.2: no block is left: ErrFull, and all is read as it was.
func TestMoveFull(t *testing.T) {
	g := shape(3, 3, 1, 16, 2)
	r := made(t, g, 3)
	for leb := range 3 {
		r.change(t, leb, some(10*leb, leb))
		r.wear(t, leb, 0, 0, 1+leb%2)
	}
	r.still(t, func() {
		for leb := range 3 {
			is(t, "Move", scrub.Move(r.s, leb), api.ErrFull)
		}
		r.all(t, 1, api.ErrFull)
		r.all(t, 2, api.ErrFull)
		r.all(t, 3, api.OK)
	})
	r.worn(t, 1, 0, 1, 2)
	for leb := range 3 {
		r.reads(t, leb, some(10*leb, leb), 1+leb%2)
	}
}

// P12.2: all that are worn by the limit are moved, in their order, and no other one.
func TestAll(t *testing.T) {
	g := shape(9, 4, 1, 16, 3)
	for limit := 1; limit <= 4; limit++ {
		r := made(t, g, 6)
		var want, old []int
		for leb := range 5 {
			r.change(t, leb, some(11*leb, leb))
			old = append(old, r.block(t, leb))
		}
		for leb := range 5 {
			r.wear(t, leb, 0, 0, (2*leb+1)%4)
			if (2*leb+1)%4 >= limit {
				want = append(want, leb)
			}
		}
		r.all(t, limit, api.OK, want...)
		for leb := range 5 {
			moved := slices.Contains(want, leb)
			if (r.block(t, leb) != old[leb]) != moved {
				t.Fatalf("limit %d: logical block %d is on block %d, and was on %d", limit, leb, r.block(t, leb), old[leb])
			}
			left := (2*leb + 1) % 4
			if moved {
				left = 0
			}
			r.reads(t, leb, some(11*leb, leb), left)
		}
		r.worn(t, limit)
		r.still(t, func() { r.all(t, limit, api.OK) })
	}
}

// P12.2: the numbers are used up behind some moves: these are told beside ErrFull, the others stay as they are.
func TestAllNumbersUsedUp(t *testing.T) {
	for moves := range 4 {
		r := made(t, shape(9, 3, 1, 16, 1), 5)
		for leb := range 4 {
			r.write(t, leb, api.Head{Leb: leb, Bytes: 3, Number: mostNumber - moves - leb}, some(3, leb))
		}
		r.open(t, 5)
		for leb := range 4 {
			r.wear(t, leb, 1, 0, 1)
		}
		r.all(t, 1, api.ErrFull, []int{0, 1, 2, 3}[:moves]...)
		r.worn(t, 1, []int{0, 1, 2, 3}[moves:]...)
		for leb := range 4 {
			left := 1
			if leb < moves {
				left = 0
			}
			r.reads(t, leb, some(3, leb), left)
		}
		r.all(t, 1, api.ErrFull)
	}
}

// P12.2: each block that is left behind is weak, so that there is room for one move alone: it is told beside ErrFull.
func TestAllFullByWeak(t *testing.T) {
	g := shape(5, 3, 1, 16, 1)
	r := made(t, g, 4)
	for leb := range 4 {
		r.change(t, leb, some(8*leb, leb))
	}
	for leb := range 4 {
		r.wear(t, leb, 0, 0, 1)
		r.c.Weak(r.block(t, leb))
	}
	is(t, "Unmap", r.s.Unmap(0), api.OK)
	r.all(t, 1, api.ErrFull, 1)
	for range 2 {
		r.worn(t, 1, 2, 3)
		r.reads(t, 1, some(8, 1), 0)
		r.reads(t, 2, some(16, 2), 1)
		r.reads(t, 3, some(24, 3), 1)
		is(t, "Move", scrub.Move(r.s, 0), api.ErrNone)
		r.open(t, 4)
	}
}

// P12.2: blocks that fail are passed over, while there are others.
func TestAllPastWeak(t *testing.T) {
	g := shape(8, 3, 1, 16, 1)
	for good := range g.Blocks {
		r := made(t, g, 2)
		r.change(t, 0, some(20, 1))
		r.change(t, 1, some(30, 2))
		stand := []int{r.block(t, 0), r.block(t, 1)}
		if slices.Contains(stand, good) {
			continue
		}
		for block := range g.Blocks {
			if block != good && !slices.Contains(stand, block) {
				r.c.Weak(block)
			}
		}
		r.wear(t, 0, 2, 0, 1)
		r.wear(t, 1, 1, 0, 1)
		r.all(t, 1, api.OK, 0, 1)
		r.worn(t, 1)
		r.reads(t, 0, some(20, 1), 0)
		r.reads(t, 1, some(30, 2), 0)
	}
}

// scene is a chip with worn logical blocks on it, made by the same calls each time: 0, 2 and 3 are worn, 1 is not, 4 has none.
type scene struct {
	g    api.Geometry
	weak []int
}

// scenes are unlike ones.
func scenes() []scene {
	return []scene{
		{g: shape(5, 3, 1, 16, 1)},
		{g: shape(7, 4, 1, 16, 2)},
		{g: shape(8, 3, 2, 8, 2), weak: []int{6, 4}},
		{g: shape(7, 2, 1, 20, 1), weak: []int{4, 5}},
	}
}

// bytes are those of a logical block that has some.
func (x scene) bytes(leb int) []byte {
	return [][]byte{some(most(x.g), 1), some(3, 2), {}, some(room(x.g), 3)}[leb]
}

// play makes it. What is weak of its blocks is so when all is written.
func (x scene) play(t *testing.T) *rig {
	t.Helper()
	r := made(t, x.g, 5)
	for leb := range 4 {
		r.change(t, leb, some(leb, 9))
		r.change(t, leb, x.bytes(leb))
	}
	r.wear(t, 0, 1, 0, 1)
	r.wear(t, 2, 0, x.g.Sectors-1, x.g.Flips)
	r.wear(t, 3, 1, 0, 1)
	r.wear(t, 3, 0, 0, 1)
	for _, block := range x.weak {
		r.c.Weak(block)
	}
	return r
}

// holds fails if a logical block does not have just the bytes that it had.
func (x scene) holds(t *testing.T, r *rig) {
	t.Helper()
	for leb := range 4 {
		if got, _, err := r.s.Read(leb); !bytes.Equal(got, x.bytes(leb)) || err != api.OK {
			t.Fatalf("Read(%d) = % x, %d; want % x", leb, got, err, x.bytes(leb))
		}
	}
	if r.s.Has(4) {
		t.Fatal("logical block 4 has bytes")
	}
}

// settled fails if All does not go on where the power went, and come to its end.
func (x scene) settled(t *testing.T, r *rig, moved []int) {
	t.Helper()
	r.open(t, 5)
	x.holds(t, r)
	left, err := scrub.Worn(r.s, 1)
	is(t, "Worn", err, api.OK)
	rest := []int{0, 2, 3}[len(moved):]
	// The one in which the power went may be there anew already.
	if !slices.Equal(left, rest) && !slices.Equal(left, rest[1:]) {
		t.Fatalf("behind %v there are %v", moved, left)
	}
	r.all(t, 1, api.OK, left...)
	for range 2 {
		x.holds(t, r)
		r.worn(t, 1)
		r.open(t, 5)
	}
}

// P12.2, P12.3, T2: the power goes in any deed of an All, behind each byte or page of it: those that were moved ahead are told beside ErrDown, and each logical block has just the bytes that it had.
func TestAllCut(t *testing.T) {
	for _, x := range scenes() {
		deeds, told := 0, 0
		for up := false; !up; deeds++ {
			for keep := 0; keep <= long(x.g) && !up; keep++ {
				r := x.play(t)
				r.c.Arm(deeds+1, keep)
				moved, err := scrub.All(r.s, 1)
				if up = r.c.Up(); up {
					if !slices.Equal(moved, []int{0, 2, 3}) || err != api.OK {
						t.Fatalf("All = %v, %d", moved, err)
					}
					break
				}
				is(t, "All", err, api.ErrDown)
				if len(moved) >= 3 || len(moved) < told || !slices.Equal(moved, []int{0, 2, 3}[:len(moved)]) {
					t.Fatalf("deed %d: %v are told, and %d were ahead", deeds+1, moved, told)
				}
				told = len(moved)
				r.c.On()
				refused(t, r.s, 1, api.ErrDown)
				x.settled(t, r, moved)
			}
		}
		if deeds < 9 || told != 2 {
			t.Fatalf("%v: %d deeds, the last one behind %d moves", x.g, deeds, told)
		}
	}
}

// P12.2, P12.3, T2: the power goes in any deed of a Move: the logical block has its bytes, worn still or anew.
func TestMoveCut(t *testing.T) {
	for _, x := range scenes() {
		for leb := range 4 {
			for n, up := 1, false; !up; n++ {
				for keep := 0; keep <= long(x.g) && !up; keep++ {
					r := x.play(t)
					r.c.Arm(n, keep)
					err := scrub.Move(r.s, leb)
					if up = r.c.Up(); up {
						is(t, "Move", err, api.OK)
						if n < 3 {
							t.Fatalf("%d deeds", n-1)
						}
						x.holds(t, r)
						break
					}
					is(t, "Move", err, api.ErrDown)
					r.c.On()
					r.open(t, 5)
					x.holds(t, r)
				}
			}
		}
	}
}

// P12.2: which logical block the power goes in: with one page of bytes each, a move is three deeds.
func TestAllCutTold(t *testing.T) {
	for deed := 1; deed <= 9; deed++ {
		r := made(t, shape(6, 2, 1, 16, 1), 4)
		for leb := range 4 {
			r.change(t, leb, some(9, leb))
		}
		for _, leb := range []int{0, 1, 3} {
			r.wear(t, leb, 1, 0, 1)
		}
		r.c.Arm(deed, 0)
		r.all(t, 1, api.ErrDown, []int{0, 1, 3}[:(deed-1)/3]...)
		r.c.On()
		r.open(t, 4)
		r.worn(t, 1, []int{0, 1, 3}[(deed-1)/3:]...)
		r.all(t, 1, api.OK, []int{0, 1, 3}[(deed-1)/3:]...)
	}
}

// P12.3: all logical blocks that may be are worn, on a chip that has one block more.
func TestAllLebs(t *testing.T) {
	g := shape(65, 2, 1, 16, 1)
	r := made(t, g, 64)
	var every []int
	for leb := range 64 {
		r.change(t, leb, some(leb%17, leb))
		every = append(every, leb)
	}
	for block := range g.Blocks {
		r.c.Flip(block, 0, []int{block})
	}
	r.worn(t, 1, every...)
	r.all(t, 1, api.OK, every...)
	for range 2 {
		r.worn(t, 1)
		for leb := range 64 {
			r.reads(t, leb, some(leb%17, leb), 0)
		}
		r.open(t, 64)
	}
}

// P12.2: the most bytes, on the pages with the most sectors.
func TestGreatest(t *testing.T) {
	g := shape(3, 64, 8, 512, 8)
	r := made(t, g, 1)
	data := some(most(g), 1)
	r.change(t, 0, data)
	r.wear(t, 0, 63, 7, 8)
	r.worn(t, 9)
	r.all(t, 8, api.OK, 0)
	r.reads(t, 0, data, 0)
}

// R2: lists that come out are new memory, and stores on unlike chips know nothing of each other.
func TestMemory(t *testing.T) {
	one, other := made(t, small(), 3), made(t, small(), 3)
	for _, r := range []*rig{one, other} {
		for leb := range 3 {
			r.change(t, leb, some(20, leb))
			r.wear(t, leb, 0, 0, 1)
		}
	}
	for _, call := range []func(s *store.Store, limit int) ([]int, api.Errno){scrub.Worn, scrub.All} {
		got, err := call(one.s, 1)
		if !slices.Equal(got, []int{0, 1, 2}) || err != api.OK {
			t.Fatalf("%v, %d", got, err)
		}
		for i := range got {
			got[i] = 77
		}
		other.worn(t, 1, 0, 1, 2)
	}
	one.worn(t, 1)
	for leb := range 3 {
		one.reads(t, leb, some(20, leb), 0)
		other.reads(t, leb, some(20, leb), 1)
	}
}

// tire turns bits of all pages of a chip, in each sector at most as many as may be.
func tire(source *rand.Rand, c *chip.Chip) {
	g := c.Geometry()
	for block := range g.Blocks {
		for at := range g.Pages {
			var places []int
			for sector := range g.Sectors {
				for _, place := range source.Perm(8 * g.Bytes)[:source.Intn(g.Flips+1)] {
					places = append(places, 8*sector*apart(g)+place)
				}
			}
			c.Flip(block, at, places)
		}
	}
}

// plain is a store without a chip: bytes by logical block.
type plain map[int][]byte

// alike holds a store against it.
func (p plain) alike(t *testing.T, s *store.Store, step int) {
	t.Helper()
	for leb := range s.Lebs() {
		want, has := p[leb]
		wantErr := api.ErrNone
		if has {
			wantErr = api.OK
		}
		if got, _, err := s.Read(leb); !bytes.Equal(got, want) || err != wantErr {
			t.Fatalf("step %d: Read(%d) = % x, %d; want % x, %d", step, leb, got, err, want, wantErr)
		}
	}
}

// asked is what Worn must tell, by what Read tells.
func asked(s *store.Store, limit int) []int {
	var out []int
	for leb := range s.Lebs() {
		if _, n, err := s.Read(leb); err == api.OK && n >= limit {
			out = append(out, leb)
		}
	}
	return out
}

// P12.1, P12.2, P12.3, T1, T2: long rows of calls, with few enough bits read wrongly, blocks that become weak, and the power going in any deed: no call of this layer changes what a logical block has.
func TestLongRows(t *testing.T) {
	source := rand.New(rand.NewSource(1202))
	cuts, fulls, moves := 0, 0, 0
	for _, g := range []api.Geometry{shape(7, 3, 1, 16, 1), shape(9, 4, 2, 8, 2), shape(12, 2, 1, 20, 3)} {
		for range 5 {
			r := made(t, g, 5, source.Intn(g.Blocks))
			p := plain{}
			for leb := range 4 {
				p[leb] = some(source.Intn(most(g)+1), leb)
				r.change(t, leb, p[leb])
			}
			for step := range 60 {
				if source.Intn(12) == 0 {
					r.c.Weak(source.Intn(g.Blocks))
				}
				tire(source, r.c)
				limit := 1 + source.Intn(g.Flips+1)
				want := asked(r.s, limit)
				r.worn(t, limit, want...)
				r.c.Arm(source.Intn(40), source.Intn(long(g)+2))
				moved, err := scrub.All(r.s, limit)
				if len(moved) > len(want) || !slices.Equal(moved, want[:len(moved)]) {
					t.Fatalf("step %d: %v were moved of %v", step, moved, want)
				}
				moves += len(moved)
				switch {
				case err == api.OK && len(moved) == len(want):
					r.worn(t, limit)
				case err == api.ErrDown && len(moved) < len(want):
					cuts++
					r.c.On()
					r.open(t, 5)
				case err == api.ErrFull && len(moved) < len(want):
					fulls++
				default:
					t.Fatalf("step %d: %v of %v, the error %d", step, moved, want, err)
				}
				r.c.Arm(0, 0)
				p.alike(t, r.s, step)
			}
		}
	}
	if cuts < 50 || fulls < 5 || moves < 200 {
		t.Fatalf("%d cuts, %d times full, %d moves: other rows of calls are needed", cuts, fulls, moves)
	}
}
