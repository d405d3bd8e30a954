package manifest_test

import (
	"bytes"
	"encoding/binary"
	"math"
	"math/rand"
	"slices"
	"testing"

	"casemate/api"
	"casemate/ed"
	"casemate/manifest"
)

// top is the greatest number of a manifest.
const top = 2147483647

// number is four bytes of one, the lowest first.
func number(n uint32) []byte { return binary.LittleEndian.AppendUint32(nil, n) }

// ahead is what stands ahead of the segments in a manifest's bytes, of any numbers.
func ahead(version, security, key, entry, count uint32) []byte {
	return slices.Concat([]byte("mani"), number(version), number(security), number(key), number(entry), number(count))
}

// behind is what stands for a segment in a manifest's bytes, of any numbers; its digest begins with that byte.
func behind(load, size uint32, digest byte) []byte {
	return slices.Concat(number(load), number(size), []byte{digest}, make([]byte, 31))
}

// sheet is a manifest's bytes, as the chapter says them.
func sheet(m api.Manifest) []byte {
	b := ahead(uint32(m.Version), uint32(m.Security), uint32(m.Key), uint32(m.Entry), uint32(len(m.Segments)))
	for _, s := range m.Segments {
		b = append(b, slices.Concat(number(uint32(s.Load)), number(uint32(s.Bytes)), s.Digest[:])...)
	}
	return b
}

// digest is one whose bytes all differ.
func digest(from byte) [32]byte {
	var out [32]byte
	for i := range out {
		out[i] = from + byte(7*i)
	}
	return out
}

// part is a segment.
func part(load, size int) api.Segment {
	return api.Segment{Load: load, Bytes: size, Digest: digest(byte(load + size))}
}

// of is a manifest of these segments.
func of(segments ...api.Segment) api.Manifest {
	return api.Manifest{Version: 0x01020304, Security: 0x11121314, Key: 0x21222324, Entry: 0x31323334, Segments: segments}
}

// full is a manifest of as many segments as may be, with room between them, next to each other, and empty.
func full() api.Manifest {
	return of(part(0, 0), part(0, 16), part(16, 0), part(16, 1), part(17, api.MaxData), part(1<<21, 3), part(1<<30, 255), part(top, 0))
}

// same: are they one, but for a list without elements, which may be nil or not?
func same(a, b api.Manifest) bool {
	return a.Version == b.Version && a.Security == b.Security && a.Key == b.Key && a.Entry == b.Entry && slices.Equal(a.Segments, b.Segments)
}

// good are manifests that may be: with no segment, one, eight, and each number at its ends.
func good() []api.Manifest {
	out := []api.Manifest{{}, {Segments: []api.Segment{}}, {Version: 1}, of(), full(), {Segments: make([]api.Segment, 8)}}
	for _, n := range []int{0, 1, 255, 256, 65535, 65536, 1<<24 - 1, 1 << 24, 1<<31 - 2, top} {
		out = append(out, api.Manifest{Version: n}, api.Manifest{Security: n}, api.Manifest{Key: n}, api.Manifest{Entry: n}, api.Manifest{Version: n, Security: n, Key: n, Entry: n})
		out = append(out, of(part(n, 0)), of(part(0, 0), part(n, 0)), of(part(n, 0), part(n, 0)))
	}
	for _, n := range []int{0, 1, 255, 256, 65536, api.MaxData - 1, api.MaxData} {
		out = append(out, of(part(0, n)), of(part(top-n, n)), of(part(0, n), part(n, 0)), of(part(0, n), part(n+1, n)), of(part(5, n), part(5+n, n), part(5+2*n, n)))
	}
	for n := range 9 {
		out = append(out, of(full().Segments[:n]...), of(full().Segments[8-n:]...))
	}
	return out
}

// loose is a manifest that may be, of any numbers.
func loose(r *rand.Rand) api.Manifest {
	m := api.Manifest{Version: r.Intn(1 << 31), Security: r.Intn(1 << 31), Key: r.Intn(1 << 31), Entry: r.Intn(1 << 31)}
	at := 0
	for range r.Intn(9) {
		s := api.Segment{Load: at + r.Intn(1<<27), Bytes: r.Intn(api.MaxData + 1)}
		if r.Intn(3) == 0 {
			s.Load = at
		}
		r.Read(s.Digest[:])
		m.Segments = append(m.Segments, s)
		at = s.Load + s.Bytes
	}
	return m
}

// outside are numbers that no manifest has; those that wrap round among them.
func outside() []int {
	return []int{-1, -2, -256, -top, -top - 1, -top - 2, top + 1, top + 2, 1<<32 - 1, 1 << 32, 1<<32 + 1, 1<<40 + 5, 1<<62 + 1, math.MaxInt - top, math.MaxInt - 1, math.MaxInt, math.MinInt, math.MinInt + 1, math.MinInt + top}
}

// bad are manifests that may not be.
func bad() []api.Manifest {
	out := []api.Manifest{
		{Segments: make([]api.Segment, 9)}, {Segments: make([]api.Segment, 264)}, {Segments: make([]api.Segment, 1<<16)}, of(append(full().Segments, part(top, 0))...),
		of(part(0, 1), part(0, 0)), of(part(8, 8), part(15, 0)), of(part(8, 8), part(15, 8)), of(part(8, 8), part(8, 8)), of(part(8, 8), part(0, 8)), of(part(1, 0), part(0, 0)),
		of(part(0, 8), part(100, 0), part(99, 0)), of(part(0, 8), part(8, 8), part(0, 0)), of(part(0, api.MaxData), part(api.MaxData-1, 5)), of(part(top, 0), part(0, 0)), of(part(top, 0), part(top-1, 0)),
		of(part(top, 1)), of(part(top-1, 2)), of(part(top-api.MaxData+1, api.MaxData)), of(part(top, api.MaxData)), of(part(0, 4), part(top-3, 4)),
		of(part(0, api.MaxData+1)), of(part(0, top)), of(part(5, api.MaxData+1)), of(part(0, 0), part(0, api.MaxData+1)),
	}
	for _, n := range outside() {
		out = append(out, api.Manifest{Version: n}, api.Manifest{Security: n}, api.Manifest{Key: n}, api.Manifest{Entry: n}, api.Manifest{Version: n, Security: n, Key: n, Entry: n})
		for _, other := range []int{0, 1, 7, api.MaxData, top, n, -n} {
			out = append(out, of(part(n, other)), of(part(other, n)), of(part(0, 0), part(n, other)), of(part(0, 0), part(other, n)), of(part(n, other), part(top, 0)), of(part(other, n), part(top, 0)))
		}
	}
	for i := range 8 {
		for _, turn := range []func(s *api.Segment){
			func(s *api.Segment) { s.Load = -1 }, func(s *api.Segment) { s.Bytes = -1 }, func(s *api.Segment) { s.Bytes = api.MaxData + 1 }, func(s *api.Segment) { s.Load = top + 1 },
		} {
			m := full()
			turn(&m.Segments[i])
			out = append(out, m)
		}
	}
	return out
}

// lays holds Bytes against the chapter's bytes.
func lays(t *testing.T, m api.Manifest) {
	t.Helper()
	if b, err := manifest.Bytes(m); err != api.OK || !bytes.Equal(b, sheet(m)) {
		t.Errorf("Bytes(%v) = %x, %d; want %x", m, b, err, sheet(m))
	}
}

// reads holds Parse against the manifest that bytes are.
func reads(t *testing.T, b []byte, want api.Manifest) {
	t.Helper()
	if m, err := manifest.Parse(b); err != api.OK || !same(m, want) {
		t.Errorf("Parse(%x) = %v, %d; want %v", b, m, err, want)
	}
}

// refuses holds Parse to ErrForm, with nothing else.
func refuses(t *testing.T, what string, b []byte) {
	t.Helper()
	if m, err := manifest.Parse(b); err != api.ErrForm || m.Segments != nil || !same(m, api.Manifest{}) {
		t.Errorf("%s: Parse(%x) = %v, %d; want ErrForm", what, b, m, err)
	}
}

// P20.1, P20.2: the chapter's examples.
func TestExamples(t *testing.T) {
	one := []byte{'m', 'a', 'n', 'i', 1, 0, 0, 0, 0, 0, 0, 0, 0, 0, 0, 0, 0, 0, 0, 0, 0, 0, 0, 0}
	b, err := manifest.Bytes(api.Manifest{Version: 1})
	if err != api.OK || !bytes.Equal(b, one) {
		t.Errorf("Bytes(Version 1) = %x, %d; want %x", b, err, one)
	}
	reads(t, one, api.Manifest{Version: 1})
	refuses(t, "a byte more", append(one, 0))
	if b, sign, err := manifest.Split(make([]byte, 63)); len(b) != 0 || len(sign) != 0 || err != api.ErrForm {
		t.Errorf("Split(63 bytes) = %x, %x, %d; want ErrForm", b, sign, err)
	}
}

// P20.1: where each number stands, its lowest byte first, written out.
func TestPlaces(t *testing.T) {
	m := of(api.Segment{Load: 0x41424344, Bytes: 0x000a0b0c, Digest: digest(3)})
	b, err := manifest.Bytes(m)
	want := []byte{'m', 'a', 'n', 'i', 4, 3, 2, 1, 0x14, 0x13, 0x12, 0x11, 0x24, 0x23, 0x22, 0x21, 0x34, 0x33, 0x32, 0x31, 1, 0, 0, 0, 0x44, 0x43, 0x42, 0x41, 0x0c, 0x0b, 0x0a, 0}
	for i := range 32 {
		want = append(want, byte(3+7*i))
	}
	if err != api.OK || !bytes.Equal(b, want) {
		t.Errorf("Bytes(%v) = %x, %d; want %x", m, b, err, want)
	}
	reads(t, want, m)
}

// P20.1, P20.3: manifests that may be are laid down, and read as themselves.
func TestMayBe(t *testing.T) {
	for _, m := range good() {
		lays(t, m)
		reads(t, sheet(m), m)
	}
}

// P20.3: so are those of any numbers; what is read is laid down as the same bytes.
func TestThereAndBack(t *testing.T) {
	r := rand.New(rand.NewSource(201))
	counts := map[int]int{}
	for range 3000 {
		m := loose(r)
		lays(t, m)
		reads(t, sheet(m), m)
		counts[len(m.Segments)]++
	}
	if len(counts) != 9 {
		t.Errorf("numbers of segments: %v", counts)
	}
}

// P20.1: ErrArg of manifests that may not be, with no bytes.
func TestMayNotBe(t *testing.T) {
	for _, m := range bad() {
		if b, err := manifest.Bytes(m); err != api.ErrArg || len(b) != 0 {
			t.Errorf("Bytes(%v) = %x, %d; want ErrArg", m, b, err)
		}
	}
}

// P20.1: ErrForm of each beginning of a manifest's bytes, and of bytes more.
func TestBeginnings(t *testing.T) {
	for _, m := range []api.Manifest{{}, {Version: 1}, of(), of(part(16, 8)), full(), {Segments: make([]api.Segment, 8)}} {
		b := sheet(m)
		for n := range b {
			refuses(t, "a beginning", b[:n])
			refuses(t, "a beginning that is clipped", slices.Clone(b[:n]))
		}
		for _, more := range [][]byte{{0}, {1}, {0xff}, make([]byte, 39), make([]byte, 40), make([]byte, 41), []byte("mani"), b} {
			refuses(t, "bytes more", slices.Concat(b, more))
		}
		refuses(t, "a byte ahead", slices.Concat([]byte{0}, b))
		refuses(t, "all but the first", b[1:])
	}
	refuses(t, "nil", nil)
	refuses(t, "no bytes", []byte{})
	refuses(t, "bytes that were never written", make([]byte, 1000))
	refuses(t, "erased bytes", bytes.Repeat([]byte{0xff}, 1000))
}

// P20.1: ErrForm of other letters ahead.
func TestLetters(t *testing.T) {
	for _, m := range []api.Manifest{{}, full()} {
		for i := range 4 {
			for other := range 256 {
				b := sheet(m)
				if b[i] == byte(other) {
					continue
				}
				b[i] = byte(other)
				refuses(t, "another letter", b)
			}
		}
		for _, text := range []string{"Mani", "MANI", "inam", "case", "ring", "slot", "man\x00", "\x00\x00\x00\x00"} {
			refuses(t, "other letters", append([]byte(text), sheet(m)[4:]...))
		}
	}
}

// P20.1: ErrForm of numbers that no manifest may have.
func TestNumbers(t *testing.T) {
	for _, n := range []uint32{1 << 31, 1<<31 + 1, 1<<32 - 2, 1<<32 - 1, 0x80000100, 0xff000000} {
		refuses(t, "Version", ahead(n, 0, 0, 0, 0))
		refuses(t, "Security", ahead(0, n, 0, 0, 0))
		refuses(t, "Key", ahead(0, 0, n, 0, 0))
		refuses(t, "Entry", ahead(0, 0, 0, n, 0))
		refuses(t, "Load", slices.Concat(ahead(0, 0, 0, 0, 1), behind(n, 0, 0)))
		refuses(t, "Bytes", slices.Concat(ahead(0, 0, 0, 0, 1), behind(0, n, 0)))
		refuses(t, "both", slices.Concat(ahead(0, 0, 0, 0, 1), behind(n, n, 0)))
		refuses(t, "Load, such that the sum wraps round", slices.Concat(ahead(0, 0, 0, 0, 1), behind(n, -n, 0)))
		refuses(t, "the second Load", slices.Concat(ahead(0, 0, 0, 0, 2), behind(0, 0, 0), behind(n, 0, 0)))
	}
	for _, s := range [][]byte{behind(0, api.MaxData+1, 0), behind(0, top, 0), behind(top, 1, 0), behind(top-api.MaxData+1, api.MaxData, 0), behind(top, api.MaxData, 0), behind(top, top, 0)} {
		refuses(t, "one segment", slices.Concat(ahead(1, 2, 3, 4, 1), s))
		refuses(t, "the second segment", slices.Concat(ahead(1, 2, 3, 4, 2), behind(0, 0, 9), s))
	}
	refuses(t, "below the end", slices.Concat(ahead(1, 2, 3, 4, 2), behind(8, 8, 1), behind(15, 0, 2)))
	refuses(t, "below the end", slices.Concat(ahead(1, 2, 3, 4, 3), behind(0, 8, 1), behind(8, 8, 2), behind(0, 0, 3)))
	reads(t, slices.Concat(ahead(1, 2, 3, 4, 2), behind(8, 8, 0), behind(16, 0, 0)), api.Manifest{Version: 1, Security: 2, Key: 3, Entry: 4, Segments: []api.Segment{{Load: 8, Bytes: 8}, {Load: 16}}})
}

// fits: do four bytes hold each number of a manifest, one below 0 as a great one? (Of others the bytes are another manifest's, which may be.)
func fits(m api.Manifest) bool {
	numbers := []int{m.Version, m.Security, m.Key, m.Entry}
	for _, s := range m.Segments {
		numbers = append(numbers, s.Load, s.Bytes)
	}
	return !slices.ContainsFunc(numbers, func(n int) bool { return n < math.MinInt32 || n > math.MaxUint32 })
}

// P20.1: ErrForm of the bytes of manifests that may not be: Parse takes none that Bytes would not lay down.
func TestSheetsThatMayNotBe(t *testing.T) {
	tried := 0
	for _, m := range bad() {
		if fits(m) {
			refuses(t, "may not be", sheet(m))
			tried++
		}
	}
	if tried < 300 {
		t.Errorf("%d tried", tried)
	}
}

// P20.1: ErrForm of a number of segments that does not fit the bytes, and of more than eight.
func TestCounts(t *testing.T) {
	one := behind(0, 0, 5)
	for have := range 12 {
		b := slices.Repeat(one, have)
		for _, count := range []uint32{0, 1, 2, 3, 4, 5, 6, 7, 8, 9, 10, 11, 255, 256, 257, 264, 65536, 65537, 1 << 24, 1<<24 + 1, top, 1 << 31, 1<<31 + 1, 1<<31 + 8, 1<<32 - 8, 1<<32 - 1} {
			page := slices.Concat(ahead(0, 0, 0, 0, count), b)
			if int(count) == have && have <= 8 {
				reads(t, page, api.Manifest{Segments: slices.Repeat([]api.Segment{{Digest: [32]byte{5}}}, have)})
				continue
			}
			refuses(t, "another number of segments", page)
		}
	}
	refuses(t, "segments of another number", slices.Concat(ahead(0, 0, 0, 0, 1<<16), slices.Repeat(one, 1<<16)))
}

// P20.1, P20.3: any byte turned: what is read, if anything is, is laid down as the same bytes, and is another manifest.
func TestTurnedBytes(t *testing.T) {
	taken, refused := 0, 0
	for _, m := range []api.Manifest{{}, of(part(16, 8)), full()} {
		b := sheet(m)
		for i := range b {
			for bit := range 8 {
				other := slices.Clone(b)
				other[i] ^= 1 << bit
				back, err := manifest.Parse(other)
				if err != api.OK {
					refuses(t, "a turned bit", other)
					refused++
					continue
				}
				taken++
				if again, err := manifest.Bytes(back); err != api.OK || !bytes.Equal(again, other) || same(back, m) {
					t.Errorf("Parse(%x) = %v, which is laid down as %x, %d", other, back, again, err)
				}
			}
		}
	}
	if taken < 1000 || refused < 100 {
		t.Errorf("%d taken, %d refused", taken, refused)
	}
}

// R1, P20.3: any bytes: Parse ends and does not panic; what it takes is laid down as the same bytes.
func TestAnyBytes(t *testing.T) {
	r := rand.New(rand.NewSource(202))
	for range 5000 {
		b := make([]byte, r.Intn(120))
		r.Read(b)
		if r.Intn(2) == 0 {
			copy(b, ahead(1, 2, 3, 4, uint32(r.Intn(4)))[:r.Intn(25)])
		}
		m, err := manifest.Parse(b)
		if err != api.OK {
			refuses(t, "any bytes", b)
			continue
		}
		lays(t, m)
		if !bytes.Equal(sheet(m), b) {
			t.Errorf("Parse(%x) = %v", b, m)
		}
	}
}

// R2: one call does not hang on those ahead of it, also where they gave up.
func TestCallsAlone(t *testing.T) {
	b := sheet(full())
	for range 3 {
		reads(t, b, full())
		refuses(t, "a beginning", b[:len(b)-1])
		reads(t, sheet(of()), of())
		refuses(t, "a byte more", append(slices.Clone(b), 0))
		lays(t, full())
	}
}

// splits holds Split against the bytes that it was handed.
func splits(t *testing.T, signed []byte) {
	t.Helper()
	at := len(signed) - 64
	b, sign, err := manifest.Split(signed)
	if at < 0 {
		if len(b) != 0 || len(sign) != 0 || err != api.ErrForm {
			t.Errorf("Split(%d bytes) = %x, %x, %d; want ErrForm", len(signed), b, sign, err)
		}
		return
	}
	if !bytes.Equal(b, signed[:at]) || !bytes.Equal(sign, signed[at:]) || err != api.OK {
		t.Errorf("Split(%x) = %x, %x, %d", signed, b, sign, err)
	}
}

// P20.2: Split of no bytes, of fewer than a signature has, of just so many, of more; they need be no manifest's.
func TestSplit(t *testing.T) {
	r := rand.New(rand.NewSource(203))
	splits(t, nil)
	long := make([]byte, 5000)
	r.Read(long)
	for n := range 400 {
		splits(t, long[:n])
		splits(t, slices.Clone(long[:n]))
	}
	for _, n := range []int{1000, 4159, 4160, 4161, 5000} {
		splits(t, long[:n])
	}
	splits(t, make([]byte, 1<<20))
}

// P20.2, P20.3: a manifest's bytes and their signature are parted again.
func TestSigned(t *testing.T) {
	for _, m := range []api.Manifest{{}, of(part(16, 8)), full()} {
		b, _ := manifest.Bytes(m)
		mark := ed.Sign([32]byte{7}, b)
		over, sign, err := manifest.Split(append(b, mark[:]...))
		if err != api.OK || ed.Verify(ed.Public([32]byte{7}), over, sign) != api.OK {
			t.Errorf("Split: %x, %x, %d", over, sign, err)
		}
		reads(t, over, m)
	}
}

// spoil writes into a list and into its spare room.
func spoil(b []byte) {
	for i := range b[:cap(b)] {
		b[:cap(b)][i] ^= 0xa5
	}
}

// R2: what was handed to Bytes stays as it was, with its spare room, also when what came out is written into; that hangs on it no longer.
func TestBytesKeepsNothing(t *testing.T) {
	for n := range 9 {
		all := full().Segments
		m := of(all[:n]...)
		b, _ := manifest.Bytes(m)
		want := slices.Clone(b)
		spoil(b)
		if !slices.Equal(all, full().Segments) {
			t.Errorf("%d segments: %v", n, all)
		}
		lays(t, m)
		b, _ = manifest.Bytes(m)
		other, _ := manifest.Bytes(m)
		spoil(other)
		for i := range all {
			all[i] = api.Segment{Load: -1}
		}
		if !bytes.Equal(b, want) {
			t.Errorf("%d segments: %x; want %x", n, b, want)
		}
	}
	m := of(append(full().Segments, part(0, 0))...)
	manifest.Bytes(m)
	if !slices.Equal(m.Segments[:8], full().Segments) || m.Segments[8] != part(0, 0) {
		t.Errorf("segments that may not be: %v", m.Segments)
	}
}

// R2: so does what was handed to Parse.
func TestParseKeepsNothing(t *testing.T) {
	for n := range 9 {
		m := of(full().Segments[:n]...)
		room := slices.Concat(sheet(m), sheet(full()))
		b := room[:len(sheet(m))]
		first, _ := manifest.Parse(b)
		second, _ := manifest.Parse(b)
		for i := range first.Segments {
			first.Segments[i] = api.Segment{Load: -1, Bytes: -1, Digest: digest(99)}
		}
		if !bytes.Equal(room, slices.Concat(sheet(m), sheet(full()))) {
			t.Errorf("%d segments: %x", n, room)
		}
		spoil(room)
		if !same(second, m) {
			t.Errorf("%d segments: %v; want %v", n, second, m)
		}
	}
	b := append(sheet(full()), 0)
	manifest.Parse(b)
	if !bytes.Equal(b, append(sheet(full()), 0)) {
		t.Errorf("bytes of another form: %x", b)
	}
}

// R2: so does what was handed to Split, whose two lists share nothing either.
func TestSplitKeepsNothing(t *testing.T) {
	whole := sheet(full())
	for _, n := range []int{0, 63, 64, 65, 100, 128, 300} {
		room := slices.Clone(whole)
		b, sign, err := manifest.Split(room[:n])
		spoil(b)
		if !bytes.Equal(room, whole) || err == api.OK && !bytes.Equal(sign, whole[n-64:n]) {
			t.Errorf("%d bytes, the first list written into: %x, %x", n, room, sign)
		}
		b, sign, err = manifest.Split(room[:n])
		spoil(sign)
		if !bytes.Equal(room, whole) || err == api.OK && !bytes.Equal(b, whole[:n-64]) {
			t.Errorf("%d bytes, the second list written into: %x, %x", n, room, b)
		}
		b, sign, err = manifest.Split(room[:n])
		spoil(room)
		if err == api.OK && (!bytes.Equal(b, whole[:n-64]) || !bytes.Equal(sign, whole[n-64:n])) {
			t.Errorf("%d bytes, what was handed in written into: %x, %x", n, b, sign)
		}
	}
}
