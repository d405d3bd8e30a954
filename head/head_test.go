package head_test

import (
	"bytes"
	"math"
	"math/rand"
	"slices"
	"testing"

	"casemate/api"
	"casemate/ecc"
	"casemate/head"
)

// mostNumber is the greatest number of a writing.
const mostNumber = 1000000000

// shape is a geometry of these numbers.
func shape(blocks, pages, sectors, size, flips int) api.Geometry {
	return api.Geometry{Blocks: blocks, Pages: pages, Sectors: sectors, Bytes: size, Flips: flips}
}

// small is that of the chapter's examples.
func small() api.Geometry { return shape(1, 3, 1, 16, 1) }

// shapes are geometries of unlike pages: the least and the greatest of each number among them, and pages that a head fills, with and without 00 behind it.
func shapes() []api.Geometry {
	return []api.Geometry{
		small(), shape(1, 2, 1, 16, 1), shape(256, 64, 8, 512, 8), shape(1, 64, 1, 16, 8), shape(4, 2, 8, 512, 1),
		shape(4, 5, 4, 4, 2), shape(4, 5, 2, 8, 3), shape(4, 3, 1, 20, 1), shape(4, 7, 5, 4, 1), shape(2, 63, 3, 52, 4), shape(9, 17, 1, 256, 1), shape(9, 33, 1, 260, 1),
	}
}

// beside are geometries that may not be, by each of their numbers; such as wrap round when they are multiplied among them.
func beside() []api.Geometry {
	out := []api.Geometry{
		{}, shape(257, 3, 1, 16, 1), shape(1, 65, 1, 16, 1), shape(1, 1, 1, 16, 1), shape(1, 3, 9, 16, 1), shape(1, 3, 1, 516, 1), shape(1, 3, 1, 16, 9),
		shape(1, 3, 1, 12, 1), shape(1, 3, 3, 4, 1), shape(1, 3, 1, 4, 1), shape(1, 3, 1, 17, 1), shape(1, 3, 1, 18, 1), shape(1, 3, 8, 2, 1), shape(1, 3, -4, -4, 1),
	}
	for _, n := range []int{0, -1, -16, 1024, 1 << 31, 1 << 32, 1<<32 + 16, 1 << 60, 1 << 62, math.MinInt, math.MinInt + 4, math.MaxInt, math.MaxInt - 3, math.MinInt32, math.MaxInt32} {
		out = append(out, shape(n, 3, 1, 16, 1), shape(1, n, 1, 16, 1), shape(1, 3, n, 16, 1), shape(1, 3, 1, n, 1), shape(1, 3, 1, 16, n), shape(n, n, n, n, n))
	}
	return out
}

// room is how many bytes a page has.
func room(g api.Geometry) int { return g.Sectors * g.Bytes }

// most is how many bytes a logical block may have.
func most(g api.Geometry) int { return (g.Pages - 1) * room(g) }

// four are a number's bytes, the lowest first.
func four(n uint32) []byte { return []byte{byte(n), byte(n >> 8), byte(n >> 16), byte(n >> 24)} }

// sheet is a page as the chapter says it, of any three numbers.
func sheet(g api.Geometry, leb, size, number uint32) []byte {
	p := slices.Concat([]byte("case"), four(leb), four(size), four(number))
	return append(p, make([]byte, room(g)-len(p))...)
}

// page is a head's, as the chapter says it.
func page(g api.Geometry, h api.Head) []byte {
	return sheet(g, uint32(h.Leb), uint32(h.Bytes), uint32(h.Number))
}

// edges are heads that may be: the least and the greatest of each number, those that have a one in each of its bits, and those at which one byte more is needed.
func edges(g api.Geometry) []api.Head {
	var out []api.Head
	for _, leb := range []int{0, 1, 2, 4, 8, 16, 32, 62, 63} {
		out = append(out, api.Head{Leb: leb, Bytes: 0, Number: 1}, api.Head{Leb: leb, Bytes: most(g), Number: mostNumber})
	}
	for _, n := range []int{0, 1, room(g) - 1, room(g), room(g) + 1, 255, 256, 257, 65535, 65536, 65537, most(g) - 1, most(g)} {
		if n <= most(g) {
			out = append(out, api.Head{Leb: 5, Bytes: n, Number: 7})
		}
	}
	for n := 1; n <= mostNumber; n *= 2 {
		out = append(out, api.Head{Leb: 3, Bytes: 2, Number: n}, api.Head{Leb: 3, Bytes: 2, Number: n + 1})
	}
	return append(out, api.Head{Number: mostNumber - 1}, api.Head{Number: mostNumber})
}

// some makes a head that may be.
func some(source *rand.Rand, g api.Geometry) api.Head {
	return api.Head{Leb: source.Intn(64), Bytes: source.Intn(most(g) + 1), Number: 1 + source.Intn(mostNumber)}
}

// laid is the call where no error may come.
func laid(t *testing.T, g api.Geometry, h api.Head) []byte {
	t.Helper()
	p, err := head.Bytes(g, h)
	if err != api.OK {
		t.Fatalf("Bytes(%v, %v): %d", g, h, err)
	}
	return p
}

// unlaid fails if Bytes does not answer ErrArg, and nothing beside it.
func unlaid(t *testing.T, g api.Geometry, h api.Head) {
	t.Helper()
	if p, err := head.Bytes(g, h); len(p) != 0 || err != api.ErrArg {
		t.Errorf("Bytes(%v, %v) = % x, %d; want ErrArg alone", g, h, p, err)
	}
}

// read fails if Parse does not answer this head.
func read(t *testing.T, g api.Geometry, data []byte, want api.Head) {
	t.Helper()
	if h, err := head.Parse(g, data); h != want || err != api.OK {
		t.Fatalf("Parse(%v, % x) = %v, %d; want %v", g, data, h, err, want)
	}
}

// unread fails if Parse does not answer this error, and nothing beside it.
func unread(t *testing.T, g api.Geometry, data []byte, want api.Errno) {
	t.Helper()
	if h, err := head.Parse(g, data); h != (api.Head{}) || err != want {
		t.Fatalf("Parse(%v, % x) = %v, %d; want the error %d alone", g, data, h, err, want)
	}
}

// counted fails if Pages does not answer just this.
func counted(t *testing.T, g api.Geometry, size, want int, wantErr api.Errno) {
	t.Helper()
	if n, err := head.Pages(g, size); n != want || err != wantErr {
		t.Fatalf("Pages(%v, %d) = %d, %d; want %d, %d", g, size, n, err, want, wantErr)
	}
}

// P9.1, P9.2: the chapter's examples.
func TestExamples(t *testing.T) {
	g := small()
	if n, err := head.Cap(g); n != 32 || err != api.OK {
		t.Errorf("Cap = %d, %d; want 32", n, err)
	}
	counted(t, g, 0, 0, api.OK)
	counted(t, g, 17, 2, api.OK)
	counted(t, g, 33, 0, api.ErrArg)
	want := []byte{'c', 'a', 's', 'e', 1, 0, 0, 0, 2, 0, 0, 0, 3, 1, 0, 0}
	if p := laid(t, g, api.Head{Leb: 1, Bytes: 2, Number: 259}); !bytes.Equal(p, want) {
		t.Errorf("Bytes = % x; want % x", p, want)
	}
	read(t, g, want, api.Head{Leb: 1, Bytes: 2, Number: 259})
	unread(t, g, make([]byte, 16), api.ErrForm)
}

// P9.1: all pages of a block but the first one, of pages as long as layer 6 says.
func TestCap(t *testing.T) {
	for _, x := range []struct {
		g    api.Geometry
		want int
	}{
		{small(), 32},
		{shape(1, 2, 1, 16, 1), 16},
		{shape(256, 64, 8, 512, 8), 258048},
		{shape(3, 2, 8, 512, 1), 4096},
		{shape(1, 64, 4, 4, 8), 1008},
		{shape(2, 5, 3, 20, 2), 240},
	} {
		if n, err := head.Cap(x.g); n != x.want || err != api.OK {
			t.Errorf("Cap(%v) = %d, %d; want %d", x.g, n, err, x.want)
		}
	}
	for pages := 2; pages <= 64; pages++ {
		for sectors := 1; sectors <= 8; sectors++ {
			for size := 16; size <= 512; size += 4 {
				g := shape(1, pages, sectors, size, 1)
				own, _ := ecc.Room(g)
				if n, err := head.Cap(g); n != (pages-1)*own || err != api.OK {
					t.Fatalf("Cap(%v) = %d, %d; want %d", g, n, err, (pages-1)*own)
				}
			}
		}
	}
}

// P9.1: blocks and flips have no say in how many bytes there are.
func TestCapBeside(t *testing.T) {
	for _, blocks := range []int{1, 2, 255, 256} {
		for flips := 1; flips <= 8; flips++ {
			if n, err := head.Cap(shape(blocks, 4, 2, 32, flips)); n != 192 || err != api.OK {
				t.Errorf("%d blocks, %d flips: Cap = %d, %d; want 192", blocks, flips, n, err)
			}
		}
	}
}

// P9.1: the least number of pages with room for the bytes: of every number that may be, and of those just beside.
func TestPages(t *testing.T) {
	for _, g := range shapes() {
		want := 0
		for n := 0; n <= most(g); n++ {
			if n > want*room(g) {
				want++
			}
			counted(t, g, n, want, api.OK)
		}
		if want != g.Pages-1 {
			t.Errorf("%v: Cap takes %d pages", g, want)
		}
	}
}

// P9.1, R1: no other number of bytes, however far away.
func TestPagesNone(t *testing.T) {
	for _, g := range shapes() {
		for _, n := range []int{-1, -2, -room(g), -most(g), most(g) + 1, most(g) + 2, most(g) + room(g), 2 * most(g), 1 << 31, 1 << 32, 1<<32 + 1, 1 << 62, math.MinInt, math.MinInt + 1, math.MaxInt, math.MaxInt - 1, math.MinInt32, math.MaxInt32} {
			counted(t, g, n, 0, api.ErrArg)
		}
	}
}

// P9.1, R1: a geometry that may not be is no call's, whatever is beside it.
func TestNoSuchGeometry(t *testing.T) {
	h := api.Head{Leb: 1, Bytes: 0, Number: 1}
	for _, g := range beside() {
		if n, err := head.Cap(g); n != 0 || err != api.ErrArg {
			t.Errorf("Cap(%v) = %d, %d; want ErrArg", g, n, err)
		}
		for _, n := range []int{0, 1, 16, -1, math.MinInt, math.MaxInt} {
			counted(t, g, n, 0, api.ErrArg)
		}
		unlaid(t, g, h)
		unlaid(t, g, api.Head{})
		for _, n := range []int{0, 1, 4, 12, 15, 16, 17, 18, 32, 516} {
			p := make([]byte, n)
			unread(t, g, p, api.ErrArg)
			copy(p, sheet(small(), 1, 0, 1))
			unread(t, g, p, api.ErrArg)
		}
		unread(t, g, nil, api.ErrArg)
	}
}

// P9.2: a head's page byte by byte, at the edges and in between.
func TestBytes(t *testing.T) {
	source := rand.New(rand.NewSource(921))
	for _, g := range shapes() {
		all := edges(g)
		for range 200 {
			all = append(all, some(source, g))
		}
		for _, h := range all {
			if p := laid(t, g, h); !bytes.Equal(p, page(g, h)) {
				t.Fatalf("Bytes(%v, %v) = % x; want % x", g, h, p, page(g, h))
			}
		}
	}
}

// P9.2: the greatest head, written out, with 00 up to the end of its page.
func TestBytesGreatest(t *testing.T) {
	g := shape(1, 64, 2, 512, 8)
	want := make([]byte, 1024)
	copy(want, []byte{'c', 'a', 's', 'e', 63, 0, 0, 0, 0x00, 0xfc, 0x00, 0x00, 0x00, 0xca, 0x9a, 0x3b})
	h := api.Head{Leb: 63, Bytes: 64512, Number: 1000000000}
	if p := laid(t, g, h); !bytes.Equal(p, want) {
		t.Errorf("Bytes = % x; want % x", p, want)
	}
	read(t, g, want, h)
}

// P9.2, R1: each number of a head out of its bounds, also such as wrap round to one within them.
func TestBytesNone(t *testing.T) {
	for _, g := range shapes() {
		far := []int{-1, -2, -64, 1 << 31, 1 << 32, 1<<32 + 1, 1 << 62, -1 << 32, 1 - 1<<32, math.MinInt, math.MinInt + 1, math.MaxInt, math.MinInt32, math.MaxInt32}
		for _, n := range append(far, 64, 65, 255, 256) {
			unlaid(t, g, api.Head{Leb: n, Bytes: 1, Number: 1})
		}
		for _, n := range append(far, most(g)+1, most(g)+room(g), 2*most(g)+1) {
			unlaid(t, g, api.Head{Leb: 1, Bytes: n, Number: 1})
		}
		for _, n := range append(far, 0, mostNumber+1, mostNumber+2, 2*mostNumber) {
			unlaid(t, g, api.Head{Leb: 1, Bytes: 1, Number: n})
		}
		unlaid(t, g, api.Head{})
		unlaid(t, g, api.Head{Leb: -1, Bytes: -1, Number: -1})
	}
}

// P9.2: a page of another length is no page of this chip: too short, too long, whatever is in it; spare room does not count.
func TestParseLength(t *testing.T) {
	for _, g := range shapes() {
		own := page(g, api.Head{Leb: 1, Bytes: 2, Number: 3})
		long := append(slices.Clone(own), make([]byte, 2*room(g))...)
		for _, n := range []int{0, 1, 4, 8, 12, 15, 16, room(g) - 4, room(g) - 1, room(g) + 1, room(g) + 4, 2 * room(g), 3 * room(g)} {
			if n == room(g) {
				continue
			}
			unread(t, g, long[:n], api.ErrArg)
			unread(t, g, bytes.Repeat([]byte{0xff}, n), api.ErrArg)
		}
		unread(t, g, nil, api.ErrArg)
		unread(t, g, own[1:], api.ErrArg)
		read(t, g, long[:room(g)], api.Head{Leb: 1, Bytes: 2, Number: 3})
	}
}

// P9.2: what is no head's page: another beginning, another end, nothing, anything.
func TestParseForm(t *testing.T) {
	source := rand.New(rand.NewSource(922))
	for _, g := range shapes() {
		unread(t, g, make([]byte, room(g)), api.ErrForm)
		unread(t, g, bytes.Repeat([]byte{0xff}, room(g)), api.ErrForm)
		for range 50 {
			p := make([]byte, room(g))
			source.Read(p)
			unread(t, g, p, api.ErrForm)
		}
		for _, text := range []string{"CASE", "Case", "esac", "cas\x00", "\x00ase", "cast", "base"} {
			p := page(g, api.Head{Leb: 1, Bytes: 2, Number: 3})
			copy(p, text)
			unread(t, g, p, api.ErrForm)
		}
		own := page(g, api.Head{Leb: 1, Bytes: 2, Number: 3})
		unread(t, g, append([]byte{0}, own[:room(g)-1]...), api.ErrForm)
	}
}

// P9.2: a page of the right form whose numbers no head may have, the greatest of four bytes among them.
func TestParseNumbers(t *testing.T) {
	far := []uint32{1 << 24, 1 << 30, 1<<31 - 1, 1 << 31, 1<<31 + 1, 1<<32 - 2, 1<<32 - 1}
	for _, g := range shapes() {
		for _, n := range append(far, 64, 65, 128, 255, 256, 1<<16) {
			unread(t, g, sheet(g, n, 1, 1), api.ErrForm)
		}
		for _, n := range append(far, uint32(most(g)+1), uint32(most(g)+room(g)), uint32(2*most(g)+1)) {
			unread(t, g, sheet(g, 1, n, 1), api.ErrForm)
		}
		for _, n := range []uint32{0, mostNumber + 1, mostNumber + 2, 2 * mostNumber, 1 << 30, 1<<31 - 1, 1 << 31, 1<<31 + 1, 1<<32 - 1} {
			unread(t, g, sheet(g, 1, 1, n), api.ErrForm)
		}
		unread(t, g, sheet(g, 0, 0, 0), api.ErrForm)
	}
}

// P9.2: how many bytes a logical block may have is asked of the chip at hand: a page of another chip is none of this one's.
func TestParseOther(t *testing.T) {
	few, many := shape(1, 2, 1, 16, 1), shape(1, 3, 1, 16, 1)
	h := api.Head{Leb: 1, Bytes: 17, Number: 1}
	p := laid(t, many, h)
	read(t, many, p, h)
	unread(t, few, p, api.ErrForm)
	unlaid(t, few, h)
}

// P9.2, P9.3: each bit of a page counts: turned, it is the page of another head, or of none.
func TestEachBit(t *testing.T) {
	source := rand.New(rand.NewSource(931))
	for _, g := range []api.Geometry{small(), shape(4, 3, 1, 20, 1), shape(4, 2, 8, 512, 1), shape(9, 33, 1, 260, 1)} {
		for range 5 {
			h := some(source, g)
			for n := range 8 * room(g) {
				p := laid(t, g, h)
				p[n/8] ^= 1 << (n % 8)
				got, err := head.Parse(g, p)
				if err == api.OK && (got == h || !bytes.Equal(laid(t, g, got), p)) {
					t.Fatalf("%v: the page of %v with its bit %d turned is read as %v", g, h, n, got)
				}
				if err != api.OK && (err != api.ErrForm || got != api.Head{}) {
					t.Fatalf("%v: the page of %v with its bit %d turned: %v, %d", g, h, n, got, err)
				}
				if (n < 32 || n >= 128) && err != api.ErrForm {
					t.Fatalf("%v: the page of %v with its bit %d turned: %d; want ErrForm", g, h, n, err)
				}
			}
		}
	}
}

// P9.3: what is laid down is read as itself, and as many bytes as there is room.
func TestThereAndBack(t *testing.T) {
	source := rand.New(rand.NewSource(932))
	for _, g := range shapes() {
		all := edges(g)
		for range 200 {
			all = append(all, some(source, g))
		}
		for _, h := range all {
			p := laid(t, g, h)
			if own, _ := ecc.Room(g); len(p) != own {
				t.Fatalf("Bytes(%v, %v) are %d; want %d", g, h, len(p), own)
			}
			read(t, g, p, h)
		}
	}
}

// P9.3: what is read is laid down as the same bytes: of pages whose numbers are near those that may be.
func TestBackAndThere(t *testing.T) {
	source := rand.New(rand.NewSource(933))
	for _, g := range shapes() {
		seen := [2]int{}
		for range 2000 {
			p := sheet(g, uint32(source.Intn(80)), uint32(source.Intn(most(g)*5/4)), uint32(source.Intn(mostNumber*5/4)))
			if source.Intn(8) == 0 {
				p[source.Intn(len(p))] ^= 1 << source.Intn(8)
			}
			h, err := head.Parse(g, p)
			if err != api.OK {
				seen[0]++
				unread(t, g, p, api.ErrForm)
				continue
			}
			seen[1]++
			if again := laid(t, g, h); !bytes.Equal(again, p) {
				t.Fatalf("%v: % x is read as %v, and laid down as % x", g, p, h, again)
			}
		}
		if seen[0] == 0 || seen[1] == 0 {
			t.Errorf("%v: %d pages were none, %d heads'", g, seen[0], seen[1])
		}
	}
}

// P9.3: unlike heads have unlike pages.
func TestUnlike(t *testing.T) {
	source := rand.New(rand.NewSource(934))
	for _, g := range shapes() {
		all := edges(g)
		for range 500 {
			all = append(all, some(source, g))
		}
		seen := map[string]api.Head{}
		for _, h := range all {
			p := string(laid(t, g, h))
			if other, ok := seen[p]; ok && other != h {
				t.Fatalf("%v: %v and %v have one page", g, h, other)
			}
			seen[p] = h
		}
	}
}

// P9.2, T1: a head's page goes through layer 6 as it is, with as many bits flipped as may be.
func TestThroughPages(t *testing.T) {
	source := rand.New(rand.NewSource(935))
	for _, g := range shapes() {
		h := some(source, g)
		raw, err := ecc.Pack(g, laid(t, g, h))
		if err != api.OK {
			t.Fatalf("Pack(%v): %d", g, err)
		}
		for n := range g.Flips {
			raw[n] ^= 0x10
		}
		data, flips, err := ecc.Read(g, raw)
		if err != api.OK || flips != g.Flips {
			t.Fatalf("Read(%v) = %d flips, %d", g, flips, err)
		}
		read(t, g, data, h)
	}
}

// R2: a page that is handed in stays as it is, its spare room too; each page that comes out is new memory; the same call answers the same again.
func TestMemory(t *testing.T) {
	const fill = 0xb7
	source := rand.New(rand.NewSource(941))
	for _, g := range shapes() {
		h := some(source, g)
		for _, own := range [][]byte{page(g, h), sheet(g, 64, 0, 1), make([]byte, room(g)), page(g, h)[1:]} {
			whole := bytes.Repeat([]byte{fill}, len(own)+64)
			copy(whole, own)
			before := slices.Clone(whole)
			first, err := head.Parse(g, whole[:len(own)])
			again, fault := head.Parse(g, whole[:len(own)])
			if first != again || err != fault || !bytes.Equal(whole, before) {
				t.Fatalf("%v: Parse(% x): %v, %d, then %v, %d; the page is now % x", g, own, first, err, again, fault, whole)
			}
		}
		one, other := laid(t, g, h), laid(t, g, h)
		for i := range one[:cap(one)] {
			one[:cap(one)][i] ^= 0xff
		}
		if !bytes.Equal(other, page(g, h)) || !bytes.Equal(laid(t, g, h), page(g, h)) {
			t.Fatalf("%v: pages share memory", g)
		}
	}
}
