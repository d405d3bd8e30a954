package attach_test

import (
	"bytes"
	"math"
	"math/rand"
	"slices"
	"testing"

	"casemate/api"
	"casemate/attach"
	"casemate/chip"
	"casemate/drive"
	"casemate/ecc"
	"casemate/head"
)

// noLebs are numbers of logical blocks that may not be.
var noLebs = []int{0, -1, -2, -64, 65, 66, 128, 256, 1 << 31, 1 << 32, 1<<32 + 1, 1 << 62, math.MinInt, math.MinInt + 1, math.MaxInt, math.MaxInt - 1, math.MinInt32, math.MaxInt32}

// whole is a block that was found with all its pages.
func whole(block, leb, number int) api.Found {
	return api.Found{Block: block, Head: api.Head{Leb: leb, Number: number}, Whole: true}
}

// part is one that was found without all of them.
func part(block, leb, number int) api.Found {
	return api.Found{Block: block, Head: api.Head{Leb: leb, Number: number}}
}

// sized is one of so many bytes.
func sized(f api.Found, n int) api.Found {
	f.Head.Bytes = n
	return f
}

// picks fails if Pick does not answer just this.
func picks(t *testing.T, lebs int, found []api.Found, want []int, wantNext int) {
	t.Helper()
	blocks, next, err := attach.Pick(lebs, found)
	if !slices.Equal(blocks, want) || next != wantNext || err != api.OK {
		t.Fatalf("Pick(%d, %v) = %v, %d, %d; want %v, %d", lebs, found, blocks, next, err, want, wantNext)
	}
}

// stale fails if Stale does not answer just this.
func stale(t *testing.T, lebs int, found []api.Found, want ...[]int) {
	t.Helper()
	blocks, err := attach.Stale(lebs, found)
	if !slices.EqualFunc(blocks, want, slices.Equal[[]int]) || err != api.OK {
		t.Fatalf("Stale(%d, %v) = %v, %d; want %v", lebs, found, blocks, err, want)
	}
}

// scans fails if Scan does not answer just this.
func scans(t *testing.T, d *drive.Drive, want ...api.Found) {
	t.Helper()
	found, err := attach.Scan(d)
	if !slices.Equal(found, want) || err != api.OK {
		t.Fatalf("Scan = %v, %d; want %v", found, err, want)
	}
}

// unscanned fails if Scan does not answer this error, and nothing beside it.
func unscanned(t *testing.T, d *drive.Drive, want api.Errno) {
	t.Helper()
	if found, err := attach.Scan(d); len(found) != 0 || err != want {
		t.Fatalf("Scan = %v, %d; want the error %d alone", found, err, want)
	}
}

// is holds an error against the one that is asked for.
func is(t *testing.T, name string, got, want api.Errno) {
	t.Helper()
	if got != want {
		t.Fatalf("%s = %d, want %d", name, got, want)
	}
}

// P10.1, P10.2: the chapter's examples.
func TestExamples(t *testing.T) {
	picks(t, 2, []api.Found{whole(4, 0, 7), part(5, 0, 9)}, []int{4, -1}, 10)
	stale(t, 1, []api.Found{whole(4, 0, 7), whole(6, 0, 8)}, []int{4})
	if blocks, next, err := attach.Pick(0, nil); len(blocks) != 0 || next != 0 || err != api.ErrArg {
		t.Errorf("Pick(0, nothing) = %v, %d, %d; want ErrArg alone", blocks, next, err)
	}
	picks(t, 1, nil, []int{-1}, 1)
}

// P10.1, P10.2, R1: numbers of logical blocks that may not be, whatever was found.
func TestNoSuchLebs(t *testing.T) {
	for _, lebs := range noLebs {
		for _, found := range [][]api.Found{nil, {}, {whole(1, 0, 1)}, {whole(1, lebs-1, 5), part(2, -1, 9)}} {
			if blocks, next, err := attach.Pick(lebs, found); len(blocks) != 0 || next != 0 || err != api.ErrArg {
				t.Errorf("Pick(%d, %v) = %v, %d, %d; want ErrArg alone", lebs, found, blocks, next, err)
			}
			if blocks, err := attach.Stale(lebs, found); len(blocks) != 0 || err != api.ErrArg {
				t.Errorf("Stale(%d, %v) = %v, %d; want ErrArg alone", lebs, found, blocks, err)
			}
		}
	}
}

// P10.1, P10.2: every number of logical blocks that may be, of which none has a block, or each its own, or two.
func TestEveryLebs(t *testing.T) {
	for lebs := 1; lebs <= 64; lebs++ {
		var one, two []api.Found
		nothing, own, newer := make([]int, lebs), make([]int, lebs), make([]int, lebs)
		old := make([][]int, lebs)
		for leb := range lebs {
			one = append(one, whole(200-leb, leb, leb+1))
			two = append(two, whole(200-leb, leb, leb+1), whole(leb, leb, leb+101))
			nothing[leb], own[leb], newer[leb], old[leb] = -1, 200-leb, leb, []int{200 - leb}
		}
		picks(t, lebs, nil, nothing, 1)
		stale(t, lebs, nil, make([][]int, lebs)...)
		picks(t, lebs, []api.Found{}, nothing, 1)
		stale(t, lebs, []api.Found{}, make([][]int, lebs)...)
		picks(t, lebs, one, own, lebs+1)
		stale(t, lebs, one, make([][]int, lebs)...)
		picks(t, lebs, two, newer, lebs+101)
		stale(t, lebs, two, old...)
	}
}

// P10.1: the greatest Number stands, wherever in the list it is, and however great the block's number is.
func TestPickGreatest(t *testing.T) {
	for at := range 6 {
		for _, block := range []int{0, 33, 255} {
			var found []api.Found
			for i := range 6 {
				found = append(found, whole(10+i, 2, 20+3*i))
			}
			found[at] = whole(block, 2, 36)
			picks(t, 3, found, []int{-1, -1, block}, 37)
		}
	}
	picks(t, 1, []api.Found{whole(1, 0, 999999999), whole(2, 0, 1000000000), whole(3, 0, 1)}, []int{2}, 1000000001)
	picks(t, 1, []api.Found{whole(0, 0, 9), whole(1, 0, 10), whole(2, 0, 2)}, []int{1}, 11)
}

// P10.1: of one Number the least block number stands, also where the blocks' heads say unlike numbers of bytes.
func TestPickTied(t *testing.T) {
	for _, blocks := range [][]int{{3, 5}, {5, 3}, {0, 255, 128}, {255, 0, 128}, {128, 255, 0}, {9, 10, 100}, {100, 9, 10}} {
		var found []api.Found
		for i, block := range blocks {
			found = append(found, sized(whole(block, 1, 7), i), sized(whole(block+300, 1, 6), 2*i))
		}
		picks(t, 2, found, []int{-1, slices.Min(blocks)}, 8)
	}
	picks(t, 1, []api.Found{whole(4, 0, 7), part(2, 0, 7)}, []int{4}, 8)
	picks(t, 2, []api.Found{whole(4, 0, 7), whole(2, 1, 7)}, []int{4, 2}, 8)
}

// P10.1, P10.2: the next number is above all, those of blocks that are not whole and of logical blocks that are not asked for too; these stand for nothing, and are stale nowhere.
func TestBeside(t *testing.T) {
	found := []api.Found{whole(1, 0, 3), part(2, 0, 8), whole(3, 2, 20), whole(4, 63, 30), part(5, 5, 40), whole(6, 0, 2), part(7, 0, 1)}
	picks(t, 1, found, []int{1}, 41)
	stale(t, 1, found, []int{6})
	picks(t, 2, found[:4], []int{1, -1}, 31)
	picks(t, 2, found[:3], []int{1, -1}, 21)
	picks(t, 3, found[:3], []int{1, -1, 3}, 21)
	picks(t, 1, found[1:2], []int{-1}, 9)
	picks(t, 2, []api.Found{whole(8, 2, 5)}, []int{-1, -1}, 6)
	stale(t, 2, []api.Found{whole(8, 2, 5), whole(9, 2, 6)}, nil, nil)
}

// P10.2: by rising Numbers, of one Number by rising block numbers, of several logical blocks at once; of tied blocks the one that stands is the least.
func TestStaleOrder(t *testing.T) {
	found := []api.Found{
		whole(9, 0, 5), whole(2, 1, 4), whole(7, 0, 6), sized(whole(30, 0, 3), 9), whole(1, 0, 3), part(8, 0, 4), whole(12, 1, 4),
		whole(200, 0, 10), sized(whole(4, 0, 10), 3), whole(90, 0, 10), whole(3, 1, 1), whole(5, 0, 9), whole(6, 2, 4),
	}
	stale(t, 4, found, []int{1, 30, 9, 7, 5, 90, 200}, []int{3, 12}, nil, nil)
	picks(t, 4, found, []int{4, 2, 6, -1}, 11)
	slices.Reverse(found)
	stale(t, 4, found, []int{1, 30, 9, 7, 5, 90, 200}, []int{3, 12}, nil, nil)
	picks(t, 4, found, []int{4, 2, 6, -1}, 11)
}

// P10.2: a block that is not whole is not stale, and keeps none from being the one that stands.
func TestStaleWhole(t *testing.T) {
	stale(t, 1, []api.Found{whole(4, 0, 7), part(5, 0, 9)}, nil)
	stale(t, 1, []api.Found{whole(4, 0, 7), part(5, 0, 6), part(3, 0, 7)}, nil)
	stale(t, 1, []api.Found{part(4, 0, 7), part(5, 0, 6)}, nil)
	stale(t, 1, []api.Found{whole(4, 0, 7), part(5, 0, 9), whole(6, 0, 1)}, []int{6})
}

// P10.2: the block that stands is none of the others, also if it was found twice.
func TestStaleTwice(t *testing.T) {
	stale(t, 1, []api.Found{whole(4, 0, 7), whole(4, 0, 7), whole(5, 0, 3)}, []int{5})
	stale(t, 1, []api.Found{whole(4, 0, 9), whole(4, 0, 7), whole(5, 0, 8)}, []int{5})
	picks(t, 1, []api.Found{whole(4, 0, 7), whole(5, 0, 8), whole(4, 0, 9)}, []int{4}, 10)
}

// R1: numbers that no block and no head has: nothing panics, the order is that of the numbers, and Lebs out of bounds are nobody's.
func TestAnyNumbers(t *testing.T) {
	for _, leb := range append(noLebs[1:], 4, 5) {
		picks(t, 4, []api.Found{whole(1, leb, 6), whole(2, 3, 5)}, []int{-1, -1, -1, 2}, 7)
		stale(t, 4, []api.Found{whole(1, leb, 6), whole(2, 3, 5), whole(7, 3, 6)}, nil, nil, nil, []int{2})
	}
	picks(t, 1, []api.Found{whole(1, 0, -5), whole(2, 0, -4), part(3, 0, -9)}, []int{2}, -3)
	picks(t, 1, []api.Found{part(3, 0, -9)}, []int{-1}, -8)
	picks(t, 1, []api.Found{whole(3, 0, 0)}, []int{3}, 1)
	far := []api.Found{whole(math.MaxInt, 0, math.MinInt), whole(math.MinInt, 0, math.MaxInt-1), whole(-1, 0, 0), whole(7, 0, math.MinInt), whole(-7, 0, math.MinInt)}
	picks(t, 1, far, []int{math.MinInt}, math.MaxInt)
	stale(t, 1, far, []int{-7, 7, math.MaxInt, -1})
	attach.Pick(1, []api.Found{whole(1, 0, math.MaxInt)})
	attach.Stale(1, []api.Found{whole(1, 0, math.MaxInt), sized(whole(2, 0, math.MaxInt), math.MinInt)})
}

// plainPick is Pick as the chapter says it, found by asking of each whether another one is ahead of it.
func plainPick(lebs int, found []api.Found) ([]int, int) {
	out := make([]int, lebs)
	next := 1
	for leb := range out {
		out[leb] = -1
		for _, f := range found {
			next = max(next, f.Head.Number+1)
			ahead := slices.ContainsFunc(found, func(o api.Found) bool {
				return o.Whole && o.Head.Leb == leb && (o.Head.Number > f.Head.Number || o.Head.Number == f.Head.Number && o.Block < f.Block)
			})
			if f.Whole && f.Head.Leb == leb && !ahead {
				out[leb] = f.Block
			}
		}
	}
	return out, next
}

// plainStale is Stale as the chapter says it: each time the least of those that are left is taken.
func plainStale(lebs int, found []api.Found) [][]int {
	picked, _ := plainPick(lebs, found)
	out := make([][]int, lebs)
	for leb := range out {
		for number := range 20 {
			for block := range 60 {
				if block != picked[leb] && slices.ContainsFunc(found, func(f api.Found) bool {
					return f.Whole && f.Block == block && f.Head.Leb == leb && f.Head.Number == number
				}) {
					out[leb] = append(out[leb], block)
				}
			}
		}
	}
	return out
}

// some makes a list of blocks, no two of one block number, of few Lebs and Numbers so that many are tied.
func some(source *rand.Rand) []api.Found {
	var out []api.Found
	for _, block := range source.Perm(60)[:source.Intn(40)] {
		out = append(out, api.Found{Block: block, Head: api.Head{Leb: source.Intn(6), Bytes: source.Intn(3), Number: 1 + source.Intn(19)}, Whole: source.Intn(4) > 0})
	}
	return out
}

// P10.1, P10.2: long lists, held against the chapter's own words.
func TestSome(t *testing.T) {
	source := rand.New(rand.NewSource(1001))
	for range 400 {
		found := some(source)
		lebs := 1 + source.Intn(7)
		blocks, next := plainPick(lebs, found)
		picks(t, lebs, found, blocks, next)
		stale(t, lebs, found, plainStale(lebs, found)...)
	}
}

// P10.4: in another order they are picked alike, and are stale alike.
func TestAnotherOrder(t *testing.T) {
	source := rand.New(rand.NewSource(1002))
	for range 200 {
		found := some(source)
		blocks, next, _ := attach.Pick(6, found)
		old, _ := attach.Stale(6, found)
		for range 5 {
			source.Shuffle(len(found), func(i, k int) { found[i], found[k] = found[k], found[i] })
			picks(t, 6, found, blocks, next)
			stale(t, 6, found, old...)
		}
	}
}

// P10.4: a block of a greater Number that is not whole turns no pick, wherever it was found.
func TestPartTurnsNothing(t *testing.T) {
	source := rand.New(rand.NewSource(1003))
	for range 200 {
		found := some(source)
		blocks, _, _ := attach.Pick(6, found)
		old, _ := attach.Stale(6, found)
		for leb := range 6 {
			more := slices.Insert(slices.Clone(found), source.Intn(len(found)+1), part(100, leb, 50+leb))
			picks(t, 6, more, blocks, 51+leb)
			stale(t, 6, more, old...)
		}
	}
}

// R2: what was found is neither sorted nor written into, nor its spare room; what comes out is new memory, each list its own.
func TestMemory(t *testing.T) {
	source := rand.New(rand.NewSource(1004))
	for range 50 {
		roomy := append(some(source), some(source)...)
		before := slices.Clone(roomy)
		found := roomy[:len(roomy)/2]
		blocks, next, _ := attach.Pick(6, found)
		old, _ := attach.Stale(6, found)
		if !slices.Equal(roomy, before) {
			t.Fatal("what was found, or its spare room, is written into")
		}
		wantBlocks, want := slices.Clone(blocks), plainStale(6, found)
		for leb, row := range old {
			for i := range row[:cap(row)] {
				row[:cap(row)][i] = -9
			}
			for other := leb + 1; other < len(old); other++ {
				if !slices.Equal(old[other], want[other]) {
					t.Fatal("two lists of one answer share memory")
				}
			}
		}
		for i := range blocks {
			blocks[i] = -9
		}
		picks(t, 6, found, wantBlocks, next)
		stale(t, 6, found, want...)
	}
}

// shape is a geometry of these numbers.
func shape(blocks, pages, sectors, size, flips int) api.Geometry {
	return api.Geometry{Blocks: blocks, Pages: pages, Sectors: sectors, Bytes: size, Flips: flips}
}

// small has pages of 16 data bytes: a logical block has 48.
func small() api.Geometry { return shape(6, 4, 1, 16, 1) }

// shapes are geometries of unlike chips.
func shapes() []api.Geometry {
	return []api.Geometry{small(), shape(4, 2, 1, 16, 1), shape(4, 3, 8, 512, 8), shape(4, 64, 4, 4, 2), shape(5, 7, 3, 20, 2)}
}

// room is how many data bytes a page has.
func room(g api.Geometry) int { return g.Sectors * g.Bytes }

// long is how many raw bytes a page has.
func long(g api.Geometry) int { return g.Sectors*(g.Bytes+(13*g.Flips+7)/8) + 1 }

// made is a chip and its drive.
func made(t *testing.T, g api.Geometry, bad ...int) (*chip.Chip, *drive.Drive) {
	t.Helper()
	c, err := chip.New(g, bad)
	is(t, "chip.New", err, api.OK)
	d, err := drive.New(c)
	is(t, "drive.New", err, api.OK)
	return c, d
}

// of makes a page's data, unlike for unlike n.
func of(g api.Geometry, n int) []byte {
	p := make([]byte, room(g))
	for i := range p {
		p[i] = byte(41*n + 7*i + i/251)
	}
	return p
}

// write lays a head and so many pages behind it on an erased block.
func write(t *testing.T, d *drive.Drive, block int, h api.Head, pages int) {
	t.Helper()
	data, err := head.Bytes(d.Geometry(), h)
	is(t, "head.Bytes", err, api.OK)
	is(t, "Write", d.Write(block, 0, data), api.OK)
	for page := 1; page <= pages; page++ {
		is(t, "Write", d.Write(block, page, of(d.Geometry(), page)), api.OK)
	}
}

// force lays a page's data on a page, whatever it was.
func force(t *testing.T, c *chip.Chip, block, page int, data []byte) {
	t.Helper()
	raw, err := ecc.Pack(c.Geometry(), data)
	is(t, "Pack", err, api.OK)
	is(t, "Force", c.Force(block, page, raw), api.OK)
}

// P10.3: no drive, and no power: with blocks found, with none, and with all of them marked, which is no error itself.
func TestScanNone(t *testing.T) {
	unscanned(t, nil, api.ErrNil)
	for _, bad := range [][]int{nil, {0}, {0, 1, 2, 3, 4, 5}} {
		c, d := made(t, small(), bad...)
		scans(t, d)
		c.Off()
		unscanned(t, d, api.ErrDown)
		c.On()
		scans(t, d)
	}
	c, d := made(t, small())
	write(t, d, 2, api.Head{Leb: 1, Number: 1}, 0)
	c.Off()
	unscanned(t, d, api.ErrDown)
	c.On()
	scans(t, d, whole(2, 1, 1))
}

// P10.3: blocks by rising numbers, whatever their heads' numbers and whenever they were written; marked ones are none, nor are those without a head.
func TestScan(t *testing.T) {
	for _, g := range shapes() {
		c, d := made(t, g, 1)
		last := g.Blocks - 1
		write(t, d, last, api.Head{Leb: 63, Bytes: room(g), Number: 1}, 1)
		write(t, d, 0, api.Head{Leb: 0, Bytes: 1, Number: 1000000000}, 0)
		is(t, "Write", d.Write(2, 0, of(g, 5)), api.OK)
		a := sized(part(0, 0, 1000000000), 1)
		b := sized(whole(last, 63, 1), room(g))
		scans(t, d, a, b)
		is(t, "Erase", d.Erase(2), api.OK)
		write(t, d, 2, api.Head{Leb: 63, Bytes: 0, Number: 1}, 1)
		scans(t, d, a, whole(2, 63, 1), b)
		is(t, "Mark", c.Mark(0), api.OK)
		scans(t, d, whole(2, 63, 1), b)
		is(t, "Erase", d.Erase(last), api.OK)
		scans(t, d, whole(2, 63, 1))
	}
}

// P10.3: whole are the first page and as many more as the bytes take, of each number of bytes at an edge and each number of pages behind the head.
func TestScanWhole(t *testing.T) {
	for _, g := range shapes() {
		most := (g.Pages - 1) * room(g)
		for _, n := range []int{0, 1, room(g) - 1, room(g), room(g) + 1, 2 * room(g), 2*room(g) + 1, most - room(g), most - room(g) + 1, most - 1, most} {
			if n > most {
				continue
			}
			takes := (n + room(g) - 1) / room(g)
			for _, pages := range []int{0, 1, takes - 1, takes, takes + 1, g.Pages - 1} {
				if pages < 0 || pages >= g.Pages {
					continue
				}
				_, d := made(t, g)
				write(t, d, 1, api.Head{Leb: 9, Bytes: n, Number: 4}, pages)
				want := sized(part(1, 9, 4), n)
				want.Whole = pages >= takes
				scans(t, d, want)
			}
		}
	}
}

// P10.3: a page that is torn or blank, wherever it is: as the first one nothing is found; among the others that the bytes take the block is not whole; behind them it does not count.
func TestScanHole(t *testing.T) {
	g := shape(2, 6, 2, 8, 1)
	h := api.Head{Leb: 3, Bytes: 2*room(g) + 1, Number: 8}
	torn := append(bytes.Repeat([]byte{0}, long(g)-1), 0x01)
	for _, raw := range [][]byte{torn, bytes.Repeat([]byte{0xff}, long(g))} {
		for hole := range g.Pages {
			c, d := made(t, g)
			write(t, d, 1, h, g.Pages-1)
			is(t, "Force", c.Force(1, hole, raw), api.OK)
			switch {
			case hole == 0:
				scans(t, d)
			case hole <= 3:
				scans(t, d, sized(part(1, 3, 8), h.Bytes))
			default:
				scans(t, d, sized(whole(1, 3, 8), h.Bytes))
			}
		}
	}
}

// far finds bits of a page's first sector that are too many for the code.
func far(t *testing.T, c *chip.Chip, block, page int) []int {
	t.Helper()
	source := rand.New(rand.NewSource(1005))
	g := c.Geometry()
	raw, err := c.Read(block, page)
	is(t, "Read", err, api.OK)
	for range 1000 {
		places := source.Perm(8 * g.Bytes)[:g.Flips+1]
		turned := slices.Clone(raw)
		for _, place := range places {
			turned[place/8] ^= 1 << (place % 8)
		}
		if _, _, err := ecc.Read(g, turned); err == api.ErrFlips {
			return places
		}
	}
	t.Fatal("no such bits were found")
	return nil
}

// P10.3: bits of the first page that are read wrongly are put right; too many of them, and nothing is found. On another page too many make the block no less whole, as layer 8's Whole says.
func TestScanFlips(t *testing.T) {
	for _, g := range shapes() {
		c, d := made(t, g)
		write(t, d, 3, api.Head{Leb: 7, Bytes: 2, Number: 600}, 1)
		want := sized(whole(3, 7, 600), 2)
		var few []int
		for i := range g.Flips {
			few = append(few, 1+17*i)
		}
		c.Flip(3, 0, few)
		c.Flip(3, 1, few)
		scans(t, d, want)
		c.Flip(3, 0, nil)
		c.Flip(3, 1, nil)
		places := far(t, c, 3, 1)
		c.Flip(3, 1, places)
		scans(t, d, want)
		c.Flip(3, 1, nil)
		c.Flip(3, 0, far(t, c, 3, 0))
		scans(t, d)
		c.Flip(3, 0, nil)
		scans(t, d, want)
	}
}

// P10.3: first pages that are read without an error, and are no heads: by their beginning, their end, or a number that no head of this chip has.
func TestScanNoHead(t *testing.T) {
	g := shape(3, 4, 1, 20, 1)
	own, err := head.Bytes(g, api.Head{Leb: 1, Bytes: 60, Number: 1})
	is(t, "head.Bytes", err, api.OK)
	c, d := made(t, g)
	force(t, c, 0, 0, own)
	scans(t, d, sized(part(0, 1, 1), 60))
	for _, x := range []struct {
		at int
		to byte
	}{{0, 'C'}, {3, 0}, {4, 64}, {5, 1}, {7, 0x80}, {8, 61}, {11, 0x80}, {12, 0}, {15, 0x80}, {15, 0x3c}, {16, 1}, {19, 0xff}} {
		p := slices.Clone(own)
		p[x.at] = x.to
		force(t, c, 0, 0, p)
		scans(t, d)
	}
	force(t, c, 0, 0, make([]byte, 20))
	force(t, c, 1, 1, own)
	scans(t, d)
	force(t, c, 1, 0, own)
	scans(t, d, sized(part(1, 1, 1), 60))
}

// P10.3: a block in whose head, or in a page behind it, the power went.
func TestScanCut(t *testing.T) {
	g := small()
	h := api.Head{Leb: 2, Bytes: 17, Number: 5}
	first, err := head.Bytes(g, h)
	is(t, "head.Bytes", err, api.OK)
	for deed := range 3 {
		for keep := 0; keep <= long(g); keep++ {
			c, d := made(t, g)
			c.Arm(deed+1, keep)
			for page, data := range [][]byte{first, of(g, 1), of(g, 2)} {
				want := api.OK
				if page >= deed {
					want = api.ErrDown
				}
				is(t, "Write", d.Write(4, page, data), want)
			}
			unscanned(t, d, api.ErrDown)
			c.On()
			switch laid := keep == long(g); {
			case deed == 0 && !laid:
				scans(t, d)
			case deed == 2 && laid:
				scans(t, d, sized(whole(4, 2, 5), 17))
			default:
				scans(t, d, sized(part(4, 2, 5), 17))
			}
		}
	}
}

// P10.3: an erasure in which the power went: without its first page nothing is found, with all of them what was there.
func TestScanErasureCut(t *testing.T) {
	g := small()
	for keep := range g.Pages + 1 {
		c, d := made(t, g)
		write(t, d, 0, api.Head{Leb: 2, Bytes: 40, Number: 5}, 3)
		c.Arm(1, keep)
		is(t, "Erase", d.Erase(0), api.ErrDown)
		c.On()
		if keep == 0 {
			scans(t, d, sized(whole(0, 2, 5), 40))
		} else {
			scans(t, d)
		}
	}
}

// R1, R2: Scan is no deed and changes nothing: it fails on no weak block, and tells the same again; what comes out is new memory.
func TestScanChangesNothing(t *testing.T) {
	g := small()
	c, d := made(t, g)
	write(t, d, 1, api.Head{Leb: 0, Bytes: 16, Number: 2}, 1)
	write(t, d, 3, api.Head{Leb: 0, Bytes: 16, Number: 1}, 1)
	c.Weak(1)
	c.Weak(2)
	c.Arm(1, 0)
	for range 3 {
		found, err := attach.Scan(d)
		is(t, "Scan", err, api.OK)
		for i := range found {
			found[i] = api.Found{Block: -1}
		}
		scans(t, d, sized(whole(1, 0, 2), 16), sized(whole(3, 0, 1), 16))
	}
	if !c.Up() || len(d.Good()) != g.Blocks {
		t.Fatal("the scan was a deed")
	}
	is(t, "the first deed", d.Erase(4), api.ErrDown)
}

// P10.3: the greatest chip in blocks: each of them is found, and what is found is picked.
func TestScanAll(t *testing.T) {
	g := shape(256, 2, 1, 16, 1)
	_, d := made(t, g)
	var want []api.Found
	for block := range g.Blocks {
		h := api.Head{Leb: block % 64, Number: 1000 - block}
		write(t, d, block, h, 0)
		want = append(want, whole(block, h.Leb, h.Number))
	}
	scans(t, d, want...)
	blocks, old := make([]int, 64), make([][]int, 64)
	for leb := range 64 {
		blocks[leb], old[leb] = leb, []int{leb + 192, leb + 128, leb + 64}
	}
	picks(t, 64, want, blocks, 1001)
	stale(t, 64, want, old...)
}
