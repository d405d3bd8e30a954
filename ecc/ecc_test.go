package ecc_test

import (
	"bytes"
	"math"
	"math/rand"
	"slices"
	"testing"

	"casemate/api"
	"casemate/bch"
	"casemate/ecc"
)

// Numbers that no field of a geometry may be: below all, above all, and such as wrap round when they are multiplied.
var outside = []int{0, -1, -4, -16, -512, 513, 516, 1024, 1 << 31, 1 << 32, 1<<32 + 16, 1 << 60, 1 << 62, math.MinInt, math.MinInt + 4, math.MaxInt, math.MaxInt - 3, math.MinInt32, math.MaxInt32}

// shape is a geometry of these numbers.
func shape(blocks, pages, sectors, size, flips int) api.Geometry {
	return api.Geometry{Blocks: blocks, Pages: pages, Sectors: sectors, Bytes: size, Flips: flips}
}

// small is that of the chapter's examples.
func small() api.Geometry { return shape(1, 2, 1, 16, 1) }

// page is a geometry whose pages are such.
func page(sectors, size, flips int) api.Geometry { return shape(4, 8, sectors, size, flips) }

// pages are geometries of unlike pages: the least and the greatest of each number among them.
func pages() []api.Geometry {
	out := []api.Geometry{small(), page(8, 512, 8), page(8, 512, 1), page(1, 512, 8), page(4, 4, 8), page(4, 4, 1), page(2, 8, 3), page(8, 4, 5)}
	for flips := 1; flips <= 8; flips++ {
		out = append(out, page(3, 20, flips))
	}
	return out
}

// beside are geometries that may not be, by each of their numbers.
func beside() []api.Geometry {
	out := []api.Geometry{
		{}, shape(257, 2, 1, 16, 1), shape(1, 65, 1, 16, 1), shape(1, 1, 1, 16, 1), shape(1, 2, 9, 16, 1), shape(1, 2, 1, 516, 1), shape(1, 2, 1, 16, 9),
		shape(1, 2, 1, 12, 1), shape(1, 2, 3, 4, 1), shape(1, 2, 1, 8, 1), shape(1, 2, 1, 4, 1),
		shape(1, 2, 1, 17, 1), shape(1, 2, 1, 18, 1), shape(1, 2, 1, 19, 1), shape(1, 2, 8, 2, 1), shape(1, 2, -4, -4, 1), shape(1, 2, 8, 0, 1),
	}
	for _, n := range outside {
		out = append(out, shape(n, 2, 1, 16, 1), shape(1, n, 1, 16, 1), shape(1, 2, n, 16, 1), shape(1, 2, 1, n, 1), shape(1, 2, 1, 16, n), shape(n, n, n, n, n))
		for _, m := range outside {
			out = append(out, shape(1, 2, n, m, 1))
		}
	}
	return out
}

// size is how many more bytes a sector has.
func size(g api.Geometry) int { return (13*g.Flips + 7) / 8 }

// long is how many bytes a sector has with its more bytes.
func long(g api.Geometry) int { return g.Bytes + size(g) }

// some makes n bytes.
func some(source *rand.Rand, n int) []byte {
	p := make([]byte, n)
	source.Read(p)
	return p
}

// blank is an erased page.
func blank(g api.Geometry) []byte { return bytes.Repeat([]byte{0xff}, g.Sectors*long(g)+1) }

// pack is the call where no error may come.
func pack(t *testing.T, g api.Geometry, data []byte) []byte {
	t.Helper()
	raw, err := ecc.Pack(g, data)
	if err != api.OK || len(raw) != g.Sectors*long(g)+1 {
		t.Fatalf("Pack(%v, % x) = % x, %d", g, data, raw, err)
	}
	return raw
}

// turned gives a copy in which these bits of the sector i are turned: first those of its bytes, then those of its more bytes.
func turned(g api.Geometry, raw []byte, i int, places ...int) []byte {
	out := slices.Clone(raw)
	for _, n := range places {
		out[i*long(g)+n/8] ^= 1 << (n % 8)
	}
	return out
}

// counted is how many bits of a sector are looked at by the code.
func counted(g api.Geometry) int { return 8*g.Bytes + 13*g.Flips }

// told fails if Read does not tell just this.
func told(t *testing.T, g api.Geometry, raw, want []byte, flips int) {
	t.Helper()
	data, n, err := ecc.Read(g, raw)
	if !bytes.Equal(data, want) || n != flips || err != api.OK {
		t.Fatalf("Read(%v, % x) = % x, %d, %d; want % x, %d", g, raw, data, n, err, want, flips)
	}
}

// refused fails if Unpack and Read do not answer this error, and nothing beside it.
func refused(t *testing.T, g api.Geometry, raw []byte, want api.Errno) {
	t.Helper()
	if sectors, err := ecc.Unpack(g, raw); len(sectors) != 0 || err != want {
		t.Fatalf("Unpack(%v, % x) = %v, %d; want the error %d alone", g, raw, sectors, err, want)
	}
	unread(t, g, raw, want)
}

// unread fails if Read does not answer this error, and nothing beside it.
func unread(t *testing.T, g api.Geometry, raw []byte, want api.Errno) {
	t.Helper()
	if data, n, err := ecc.Read(g, raw); len(data) != 0 || n != 0 || err != want {
		t.Fatalf("Read(%v, % x) = % x, %d, %d; want the error %d alone", g, raw, data, n, err, want)
	}
}

// like: are two sectors the same?
func like(a, b api.Sector) bool {
	return bytes.Equal(a.Data, b.Data) && a.Flips == b.Flips && a.Err == b.Err
}

// asCode is a page's sectors by layer 5 alone.
func asCode(g api.Geometry, raw []byte) []api.Sector {
	var out []api.Sector
	for i := range g.Sectors {
		own := raw[i*long(g) : (i+1)*long(g)]
		data, _, n, err := bch.Decode(g.Flips, own[:g.Bytes], own[g.Bytes:])
		out = append(out, api.Sector{Data: data, Flips: n, Err: err})
	}
	return out
}

// tooMany gives bits of a sector that are flipped too often for the code to find a code word near.
func tooMany(t *testing.T, source *rand.Rand, g api.Geometry, raw []byte, i int) []int {
	t.Helper()
	for range 1000 {
		places := source.Perm(counted(g))[:g.Flips+1]
		if asCode(g, turned(g, raw, i, places...))[i].Err == api.ErrFlips {
			return places
		}
	}
	t.Fatalf("%v: no flips are too many", g)
	return nil
}

// P6.1: the least and the greatest of each number, and the chapter's example.
func TestCheck(t *testing.T) {
	all := pages()
	for _, n := range []int{1, 2, 255, 256} {
		all = append(all, shape(n, 2, 1, 16, 1))
	}
	for _, n := range []int{2, 3, 63, 64} {
		all = append(all, shape(1, n, 1, 16, 1))
	}
	all = append(all, shape(256, 64, 8, 512, 8), shape(1, 2, 4, 4, 1), shape(1, 2, 2, 8, 1), shape(1, 2, 2, 12, 1), shape(1, 2, 5, 4, 1))
	for _, g := range all {
		if err := ecc.Check(g); err != api.OK {
			t.Errorf("Check(%v) = %d", g, err)
		}
	}
}

// P6.1, R1: each number out of its bounds, alone and with others.
func TestCheckNone(t *testing.T) {
	for _, g := range beside() {
		if err := ecc.Check(g); err != api.ErrArg {
			t.Errorf("Check(%v) = %d; want ErrArg", g, err)
		}
	}
}

// P6.1: all pages, by the chapter's words; of those that may be, how many bytes they have.
func TestCheckAll(t *testing.T) {
	for sectors := -1; sectors <= 10; sectors++ {
		for n := -8; n <= 530; n++ {
			for flips := -1; flips <= 10; flips++ {
				g := page(sectors, n, flips)
				want, room, raw := api.ErrArg, 0, 0
				if sectors >= 1 && sectors <= 8 && n >= 4 && n <= 512 && n%4 == 0 && flips >= 1 && flips <= 8 && sectors*n >= 16 {
					want, room, raw = api.OK, sectors*n, sectors*long(g)+1
				}
				if err := ecc.Check(g); err != want {
					t.Fatalf("Check(%v) = %d; want %d", g, err, want)
				}
				if got, err := ecc.Room(g); got != room || err != want {
					t.Fatalf("Room(%v) = %d, %d; want %d, %d", g, got, err, room, want)
				}
				if got, err := ecc.Raw(g); got != raw || err != want {
					t.Fatalf("Raw(%v) = %d, %d; want %d, %d", g, got, err, raw, want)
				}
			}
		}
	}
	for blocks := -1; blocks <= 300; blocks++ {
		for n := -1; n <= 70; n++ {
			g, want := shape(blocks, n, 1, 16, 1), api.ErrArg
			if blocks >= 1 && blocks <= 256 && n >= 2 && n <= 64 {
				want = api.OK
			}
			if err := ecc.Check(g); err != want {
				t.Fatalf("Check(%v) = %d; want %d", g, err, want)
			}
		}
	}
}

// P6.1: a geometry that may not be is no call's, whatever is beside it.
func TestNoSuchGeometry(t *testing.T) {
	for _, g := range beside() {
		if n, err := ecc.Room(g); n != 0 || err != api.ErrArg {
			t.Errorf("Room(%v) = %d, %d; want ErrArg", g, n, err)
		}
		if n, err := ecc.Raw(g); n != 0 || err != api.ErrArg {
			t.Errorf("Raw(%v) = %d, %d; want ErrArg", g, n, err)
		}
		lengths := []int{0, 1, 12, 15, 16, 19, 32}
		for _, n := range []int{g.Sectors * g.Bytes, g.Sectors*long(g) + 1} {
			if 0 <= n && n < 20000 {
				lengths = append(lengths, n)
			}
		}
		for _, n := range lengths {
			for _, fill := range []byte{0x00, 0xff} {
				p := bytes.Repeat([]byte{fill}, n)
				if raw, err := ecc.Pack(g, p); len(raw) != 0 || err != api.ErrArg {
					t.Errorf("Pack(%v, %d bytes) = % x, %d; want ErrArg", g, n, raw, err)
				}
				refused(t, g, p, api.ErrArg)
			}
		}
		refused(t, g, nil, api.ErrArg)
	}
}

// P6.1: the chapter's example.
func TestSizes(t *testing.T) {
	for _, x := range []struct {
		g         api.Geometry
		room, raw int
	}{
		{small(), 16, 19},
		{page(2, 16, 2), 32, 41},
		{page(8, 512, 8), 4096, 4201},
		{page(4, 4, 1), 16, 25},
		{page(1, 512, 3), 512, 518},
	} {
		if n, err := ecc.Room(x.g); n != x.room || err != api.OK {
			t.Errorf("Room(%v) = %d, %d; want %d", x.g, n, err, x.room)
		}
		if n, err := ecc.Raw(x.g); n != x.raw || err != api.OK {
			t.Errorf("Raw(%v) = %d, %d; want %d", x.g, n, err, x.raw)
		}
	}
}

// P6.1: the raw bytes, byte by byte: layer 5's example tells the more bytes of a 1, and they lie behind each sector's own.
func TestPack(t *testing.T) {
	data := make([]byte, 16)
	data[4], data[12] = 1, 3
	want := []byte{0, 0, 0, 0, 0, 0, 1, 0, 0, 0, 0x1b, 0, 0, 0, 0, 0, 0, 0, 3, 0, 0, 0, 0x2d, 0, 0}
	if got := pack(t, page(4, 4, 1), data); !bytes.Equal(got, want) {
		t.Errorf("Pack = % x; want % x", got, want)
	}
}

// P6.1: sector by sector as layer 5 encodes it, and the mark behind all, whatever the data.
func TestPackEach(t *testing.T) {
	source := rand.New(rand.NewSource(611))
	for _, g := range pages() {
		n := g.Sectors * g.Bytes
		for _, data := range [][]byte{some(source, n), make([]byte, n), bytes.Repeat([]byte{0xff}, n)} {
			var want []byte
			for i := range g.Sectors {
				own := data[i*g.Bytes : (i+1)*g.Bytes]
				more, err := bch.Encode(g.Flips, own)
				if err != api.OK || len(more) != size(g) {
					t.Fatalf("Encode(%d, % x) = % x, %d", g.Flips, own, more, err)
				}
				want = slices.Concat(want, own, more)
			}
			want = append(want, 0)
			if got := pack(t, g, data); !bytes.Equal(got, want) {
				t.Fatalf("Pack(%v, % x) = % x; want % x", g, data, got, want)
			}
		}
	}
}

// P6.1, P6.2: data and raw bytes of just one length each; spare room does not count.
func TestNoSuchLength(t *testing.T) {
	for _, g := range pages() {
		room, raw := g.Sectors*g.Bytes, g.Sectors*long(g)+1
		for _, n := range []int{0, 1, g.Bytes, long(g), room - 1, room, room + 1, raw - 1, raw, raw + 1, 2 * raw, 5000} {
			for _, fill := range []byte{0x00, 0xff} {
				p := append(bytes.Repeat([]byte{fill}, n), make([]byte, 5000)...)[:n]
				if n != room {
					if got, err := ecc.Pack(g, p); len(got) != 0 || err != api.ErrArg {
						t.Errorf("Pack(%v, %d bytes) = % x, %d; want ErrArg", g, n, got, err)
					}
				}
				if n != raw {
					refused(t, g, p, api.ErrArg)
				}
			}
		}
		if got, err := ecc.Pack(g, nil); len(got) != 0 || err != api.ErrArg {
			t.Errorf("Pack(%v, nil) = % x, %d; want ErrArg", g, got, err)
		}
		refused(t, g, nil, api.ErrArg)
	}
}

// P6.2: the chapter's examples: a page of ff is blank, one of fe torn.
func TestBlankAndTorn(t *testing.T) {
	refused(t, small(), bytes.Repeat([]byte{0xff}, 19), api.ErrBlank)
	refused(t, small(), bytes.Repeat([]byte{0xfe}, 19), api.ErrTorn)
	for _, g := range pages() {
		refused(t, g, blank(g), api.ErrBlank)
		refused(t, g, bytes.Repeat([]byte{0xfe}, len(blank(g))), api.ErrTorn)
	}
}

// P6.2: a blank page's bits may be 0: any one of a sector, those of more bytes that are above too.
func TestBlankEachBit(t *testing.T) {
	for _, g := range []api.Geometry{small(), page(3, 20, 2), page(3, 20, 8)} {
		for i := range g.Sectors {
			for n := range 8 * long(g) {
				refused(t, g, turned(g, blank(g), i, n), api.ErrBlank)
			}
		}
	}
}

// P6.2: as many noughts as Flips in each sector are blank, one more in any sector is torn; wherever they are.
func TestBlankUpToAll(t *testing.T) {
	source := rand.New(rand.NewSource(621))
	for _, g := range pages() {
		all := 8 * long(g)
		for range 20 {
			raw := blank(g)
			var last [][]int
			for i := range g.Sectors {
				places := source.Perm(all)[:g.Flips+1]
				raw = turned(g, raw, i, places[:g.Flips]...)
				last = append(last, places[g.Flips:])
			}
			refused(t, g, raw, api.ErrBlank)
			for i := range g.Sectors {
				refused(t, g, turned(g, raw, i, last[i]...), api.ErrTorn)
			}
		}
		for i := range g.Sectors {
			var back, front []int
			for n := range g.Flips + 1 {
				back, front = append(back, all-1-n), append(front, n)
			}
			for _, places := range [][]int{front, back} {
				refused(t, g, turned(g, blank(g), i, places[1:]...), api.ErrBlank)
				refused(t, g, turned(g, blank(g), i, places...), api.ErrTorn)
			}
		}
	}
}

// P6.2: the noughts of neighbours do not count for a sector: its last bytes and the next one's first.
func TestBlankOnTheEdge(t *testing.T) {
	for _, g := range pages() {
		raw := blank(g)
		for i := range g.Sectors {
			for n := range g.Flips {
				place := 8*long(g) - 1 - n
				if i%2 == 1 {
					place = n
				}
				raw = turned(g, raw, i, place)
			}
		}
		refused(t, g, raw, api.ErrBlank)
	}
}

// P6.2: each mark: 00 alone says that there is data, ff alone that there may be none; no other bit of a mark may be unlike.
func TestMarks(t *testing.T) {
	source := rand.New(rand.NewSource(622))
	for _, g := range []api.Geometry{small(), page(3, 20, 4), page(4, 4, 8)} {
		data := some(source, g.Sectors*g.Bytes)
		raw, empty, full := pack(t, g, data), blank(g), bytes.Repeat([]byte{0xff}, g.Sectors*g.Bytes)
		for mark := range 256 {
			raw[len(raw)-1], empty[len(empty)-1] = byte(mark), byte(mark)
			switch mark {
			case 0:
				told(t, g, raw, data, 0)
				if got, err := ecc.Unpack(g, empty); err != api.OK || !slices.EqualFunc(got, asCode(g, empty), like) {
					t.Errorf("Unpack(%v, % x) = %v, %d", g, empty, got, err)
				}
			case 0xff:
				refused(t, g, raw, api.ErrTorn)
				refused(t, g, empty, api.ErrBlank)
			default:
				refused(t, g, raw, api.ErrTorn)
				refused(t, g, empty, api.ErrTorn)
			}
		}
		nearly := pack(t, g, full)
		nearly[len(nearly)-1] = 0x01
		refused(t, g, nearly, api.ErrTorn)
	}
}

// P6.2, P6.3: a page of noughts is one of data, and so is one that was packed of ff: what is read are the mark and the code, not how it looks.
func TestPlainPages(t *testing.T) {
	for _, g := range pages() {
		for _, fill := range []byte{0x00, 0xff} {
			data := bytes.Repeat([]byte{fill}, g.Sectors*g.Bytes)
			told(t, g, pack(t, g, data), data, 0)
		}
		told(t, g, make([]byte, g.Sectors*long(g)+1), make([]byte, g.Sectors*g.Bytes), 0)
	}
}

// P6.2: each sector is what layer 5 tells of it: of any bytes with the mark 00.
func TestUnpackByTheCode(t *testing.T) {
	source := rand.New(rand.NewSource(623))
	for _, g := range pages() {
		for count := range 2*g.Flips + 2 {
			raw := pack(t, g, some(source, g.Sectors*g.Bytes))
			for i := range g.Sectors {
				raw = turned(g, raw, i, source.Perm(counted(g))[:(count+i)%(2*g.Flips+2)]...)
			}
			got, err := ecc.Unpack(g, raw)
			if err != api.OK || !slices.EqualFunc(got, asCode(g, raw), like) {
				t.Fatalf("Unpack(%v, % x) = %v, %d; want %v", g, raw, got, err, asCode(g, raw))
			}
		}
		raw := append(some(source, g.Sectors*long(g)), 0)
		if got, err := ecc.Unpack(g, raw); err != api.OK || !slices.EqualFunc(got, asCode(g, raw), like) {
			t.Fatalf("Unpack(%v, % x) = %v, %d; want %v", g, raw, got, err, asCode(g, raw))
		}
	}
}

// P6.2: of each sector its own data, and its own number of bits that were put right.
func TestUnpackEach(t *testing.T) {
	source := rand.New(rand.NewSource(624))
	for _, g := range pages() {
		data := some(source, g.Sectors*g.Bytes)
		raw := pack(t, g, data)
		var want []api.Sector
		for i := range g.Sectors {
			n := (i + 1) % (g.Flips + 1)
			raw = turned(g, raw, i, source.Perm(counted(g))[:n]...)
			want = append(want, api.Sector{Data: data[i*g.Bytes : (i+1)*g.Bytes], Flips: n})
		}
		if got, err := ecc.Unpack(g, raw); err != api.OK || !slices.EqualFunc(got, want, like) {
			t.Fatalf("Unpack(%v, % x) = %v, %d; want %v", g, raw, got, err, want)
		}
	}
}

// P6.2, P6.3: a sector with too many flips has its error and no data, the others are told; Read has the error alone, whichever sector it is, and whatever the others are.
func TestTooManyFlips(t *testing.T) {
	source := rand.New(rand.NewSource(625))
	for _, g := range pages() {
		data := some(source, g.Sectors*g.Bytes)
		plain := pack(t, g, data)
		all := plain
		for bad := range g.Sectors {
			places := tooMany(t, source, g, plain, bad)
			raw := turned(g, plain, bad, places...)
			all = turned(g, all, bad, places...)
			var want []api.Sector
			for i := range g.Sectors {
				if i == bad {
					want = append(want, api.Sector{Err: api.ErrFlips})
					continue
				}
				raw = turned(g, raw, i, source.Perm(counted(g))[:g.Flips]...)
				want = append(want, api.Sector{Data: data[i*g.Bytes : (i+1)*g.Bytes], Flips: g.Flips})
			}
			if got, err := ecc.Unpack(g, raw); err != api.OK || !slices.EqualFunc(got, want, like) {
				t.Fatalf("Unpack(%v, % x) = %v, %d; want %v", g, raw, got, err, want)
			}
			unread(t, g, raw, api.ErrFlips)
		}
		want := slices.Repeat([]api.Sector{{Err: api.ErrFlips}}, g.Sectors)
		if got, err := ecc.Unpack(g, all); err != api.OK || !slices.EqualFunc(got, want, like) {
			t.Fatalf("Unpack(%v, % x) = %v, %d; want %v", g, all, got, err, want)
		}
		unread(t, g, all, api.ErrFlips)
	}
}

// P6.2, P6.3: an unlike mark is named ahead of the flips.
func TestTornAheadOfFlips(t *testing.T) {
	source := rand.New(rand.NewSource(626))
	for _, g := range pages() {
		raw := pack(t, g, some(source, g.Sectors*g.Bytes))
		raw = turned(g, raw, g.Sectors-1, tooMany(t, source, g, raw, g.Sectors-1)...)
		unread(t, g, raw, api.ErrFlips)
		raw[len(raw)-1] = 0x80
		refused(t, g, raw, api.ErrTorn)
		raw[len(raw)-1] = 0xff
		refused(t, g, raw, api.ErrTorn)
	}
}

// P6.3, P6.4: the chapter's example: each one bit of a page is put right; those of more bytes that are above do not count.
func TestReadEachBit(t *testing.T) {
	source := rand.New(rand.NewSource(631))
	for _, g := range []api.Geometry{small(), page(4, 4, 2), page(2, 8, 8)} {
		data := some(source, g.Sectors*g.Bytes)
		raw := pack(t, g, data)
		told(t, g, raw, data, 0)
		for i := range g.Sectors {
			for n := range 8 * long(g) {
				flips := 1
				if n >= counted(g) {
					flips = 0
				}
				told(t, g, turned(g, raw, i, n), data, flips)
			}
		}
	}
}

// P6.3: the greatest number of one sector, not of all, wherever that sector is.
func TestReadGreatest(t *testing.T) {
	source := rand.New(rand.NewSource(632))
	for _, g := range pages() {
		data := some(source, g.Sectors*g.Bytes)
		plain := pack(t, g, data)
		for most := range g.Flips + 1 {
			for at := range g.Sectors {
				raw := plain
				for i := range g.Sectors {
					n := max(0, most-1)
					if i == at {
						n = most
					}
					raw = turned(g, raw, i, source.Perm(counted(g))[:n]...)
				}
				told(t, g, raw, data, most)
			}
		}
	}
}

// P6.4: as many flips as may be in all sectors at once, and all bits above turned beside them: read as it was.
func TestReadUpToAll(t *testing.T) {
	source := rand.New(rand.NewSource(641))
	for _, g := range pages() {
		for range 10 {
			data := some(source, g.Sectors*g.Bytes)
			raw := pack(t, g, data)
			for i := range g.Sectors {
				raw = turned(g, raw, i, source.Perm(counted(g))[:g.Flips]...)
				for n := counted(g); n < 8*long(g); n++ {
					raw = turned(g, raw, i, n)
				}
			}
			told(t, g, raw, data, g.Flips)
		}
	}
}

// P6.4: a beginning of what was packed, laid over a page of ff, is torn or blank, however long it is; blank, as long as it is hardly to be told from ff. The whole is read.
func TestBeginnings(t *testing.T) {
	source := rand.New(rand.NewSource(642))
	for _, g := range []api.Geometry{small(), page(3, 20, 1), page(3, 20, 8), page(4, 4, 3), page(2, 512, 4)} {
		n := g.Sectors * g.Bytes
		late := bytes.Repeat([]byte{0xff}, n)
		late[n-1] = 0
		for _, data := range [][]byte{some(source, n), make([]byte, n), bytes.Repeat([]byte{0xff}, n), late} {
			raw := pack(t, g, data)
			for keep := range len(raw) {
				over := blank(g)
				copy(over, raw[:keep])
				want := api.ErrBlank
				for i := range g.Sectors {
					noughts := 0
					for k := range 8 * long(g) {
						noughts += 1 - int(over[i*long(g)+k/8]>>(k%8)&1)
					}
					if noughts > g.Flips {
						want = api.ErrTorn
					}
				}
				if keep == 0 && want != api.ErrBlank {
					t.Fatalf("%v: a page of ff has noughts", g)
				}
				refused(t, g, over, want)
			}
			told(t, g, raw, data, 0)
		}
	}
}

// fill is what the spare room of bytes holds in these tests.
const fill = 0xb7

// roomy gives the same bytes in a larger array, and that array, so that a test sees whether the spare room was written into, or read.
func roomy(p []byte) (front []byte, whole []byte) {
	whole = bytes.Repeat([]byte{fill}, len(p)+64)
	copy(whole, p)
	return whole[:len(p)], whole
}

// untouched: does the array still hold the bytes, and the fill behind them?
func untouched(whole []byte, p []byte) bool {
	return bytes.Equal(whole[:len(p)], p) && bytes.Equal(whole[len(p):], bytes.Repeat([]byte{fill}, 64))
}

// scribble writes into all of what came out, its spare room too.
func scribble(p []byte) {
	p = p[:cap(p)]
	for i := range p {
		p[i] ^= 0xff
	}
}

// R2: what is handed in stays as it is, its spare room too; what comes out is new memory, each sector's for itself; the same call answers the same again.
func TestMemory(t *testing.T) {
	source := rand.New(rand.NewSource(651))
	for _, g := range pages() {
		for count := range g.Flips + 1 {
			data := some(source, g.Sectors*g.Bytes)
			plain := pack(t, g, data)
			raw := plain
			for i := range g.Sectors {
				raw = turned(g, raw, i, source.Perm(counted(g))[:count]...)
			}
			plain = slices.Clone(plain)
			own, all := roomy(data)
			front, whole := roomy(raw)
			for round := range 2 {
				packed := pack(t, g, own)
				sectors, err := ecc.Unpack(g, front)
				read, n, fault := ecc.Read(g, front)
				if !bytes.Equal(packed, plain) || err != api.OK || len(sectors) != g.Sectors || !bytes.Equal(read, data) || n != count || fault != api.OK {
					t.Fatalf("%v, %d flips, round %d: % x, %v, %d, % x, %d, %d", g, count, round, packed, sectors, err, read, n, fault)
				}
				scribble(packed)
				scribble(read)
				for i, s := range sectors {
					if !bytes.Equal(s.Data, data[i*g.Bytes:(i+1)*g.Bytes]) {
						t.Fatalf("%v, %d flips: the sector %d shares memory", g, count, i)
					}
					scribble(s.Data)
				}
				if !untouched(all, data) || !untouched(whole, raw) {
					t.Fatalf("%v, %d flips: an argument or its spare room was written into, or came out", g, count)
				}
			}
		}
	}
}

// R2: pages that are not read stay as they are, too.
func TestMemoryOfErrors(t *testing.T) {
	source := rand.New(rand.NewSource(652))
	for _, g := range pages() {
		flips := pack(t, g, some(source, g.Sectors*g.Bytes))
		flips = turned(g, flips, 0, tooMany(t, source, g, flips, 0)...)
		torn := slices.Clone(flips)
		torn[len(torn)-1] = 0xff
		for _, x := range []struct {
			raw  []byte
			want api.Errno
		}{{flips, api.ErrFlips}, {torn, api.ErrTorn}, {blank(g), api.ErrBlank}, {flips[1:], api.ErrArg}} {
			front, whole := roomy(x.raw)
			unread(t, g, front, x.want)
			ecc.Unpack(g, front)
			ecc.Pack(g, front)
			if !untouched(whole, x.raw) {
				t.Fatalf("%v: with the error %d an argument was written into", g, x.want)
			}
		}
	}
}
