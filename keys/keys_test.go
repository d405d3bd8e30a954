package keys_test

import (
	"bytes"
	"encoding/binary"
	"math"
	"math/rand"
	"slices"
	"testing"

	"casemate/api"
	"casemate/keys"
)

// top is the greatest number of a key.
const top = 2147483647

// number is four bytes of one, the lowest first.
func number(n uint32) []byte { return binary.LittleEndian.AppendUint32(nil, n) }

// front is what stands ahead of the keys in a ring's bytes, of any number of them.
func front(count uint32) []byte { return append([]byte("ring"), number(count)...) }

// piece is what stands for a key in a ring's bytes, of any number and last byte; its point begins with the byte 5.
func piece(n uint32, last byte) []byte {
	return slices.Concat(number(n), []byte{5}, make([]byte, 31), []byte{last})
}

// plain is the key of piece.
func plain(n int, revoked bool) api.Key {
	return api.Key{Number: n, Bytes: [32]byte{5}, Revoked: revoked}
}

// sheet is a ring's bytes, as the chapter says them.
func sheet(ring []api.Key) []byte {
	b := front(uint32(len(ring)))
	for _, k := range ring {
		last := []byte{0}
		if k.Revoked {
			last[0] = 1
		}
		b = append(b, slices.Concat(number(uint32(k.Number)), k.Bytes[:], last)...)
	}
	return b
}

// key is one whose bytes all differ, and hang on its number.
func key(n int) api.Key {
	k := api.Key{Number: n}
	for i := range k.Bytes {
		k.Bytes[i] = byte(n + n>>8 + 7*i + 1)
	}
	return k
}

// of is a ring of keys of these numbers, whatever they are.
func of(numbers ...int) []api.Key {
	var out []api.Key
	for _, n := range numbers {
		out = append(out, key(n))
	}
	return out
}

// without is a ring in which those keys are revoked whose place's bit of the mask is 1.
func without(ring []api.Key, mask int) []api.Key {
	out := slices.Clone(ring)
	for i := range out {
		out[i].Revoked = mask>>i&1 == 1
	}
	return out
}

// full are the numbers of as many keys as may be, at the edges of bytes.
func full() []int { return []int{0, 1, 255, 256, 65536, 1 << 24, top - 1, top} }

// good are rings that may be: with no key, one, eight, revoked ones among them, each number at its ends.
func good() [][]api.Key {
	out := [][]api.Key{nil, {}, {{}}, {{Revoked: true}}, {{Number: top}}, {{Number: 0}, {Number: 1}}, {{Number: top - 1}, {Number: top, Revoked: true}}}
	for _, n := range []int{0, 1, 2, 255, 256, 257, 65535, 65536, 1<<24 - 1, 1 << 24, top - 1, top} {
		out = append(out, of(n), without(of(n), 1))
	}
	for n := range 9 {
		out = append(out, of(full()[:n]...), of(full()[8-n:]...), of([]int{0, 1, 2, 3, 4, 5, 6, 7}[:n]...), of([]int{3, 5, 8, 13, 21, 34, 55, 89}[:n]...))
	}
	for mask := range 256 {
		out = append(out, without(of(full()...), mask))
	}
	return out
}

// loose is a ring that may be, of any numbers and keys, some revoked.
func loose(r *rand.Rand) []api.Key {
	most := []int{8, 12, 300, 1 << 17, 1 << 31}[r.Intn(5)]
	var numbers []int
	for range r.Intn(9) {
		numbers = append(numbers, r.Intn(most))
	}
	slices.Sort(numbers)
	var out []api.Key
	for _, n := range slices.Compact(numbers) {
		k := api.Key{Number: n, Revoked: r.Intn(3) == 0}
		r.Read(k.Bytes[:])
		out = append(out, k)
	}
	return out
}

// outside are numbers that no key has; those that wrap round among them.
func outside() []int {
	return []int{-1, -2, -256, -top, -top - 1, -top - 2, top + 1, top + 2, 1<<32 - 1, 1 << 32, 1<<32 + 1, 1<<40 + 5, 1<<62 + 1, math.MaxInt - top, math.MaxInt - 1, math.MaxInt, math.MinInt, math.MinInt + 1, math.MinInt + top}
}

// bad are rings that may not be.
func bad() [][]api.Key {
	out := [][]api.Key{
		of(0, 1, 2, 3, 4, 5, 6, 7, 8), of(append(full()[:7], top-1, top)...), of(0, 1, 2, 3, 4, 5, 6, top-1, top), make([]api.Key, 9), make([]api.Key, 264), make([]api.Key, 1<<16),
		of(0, 0), of(1, 1), of(top, top), of(1, 0), of(top, 0), of(top, top-1), of(top, 1), of(5, 4), of(256, 255), of(255, 255), of(3, 256, 2), of(3, 7, 3), of(3, 7, 5), of(3, 7, 7), of(0, 1, 2, 3, 4, 5, 6, 6), of(0, 1, 2, 3, 4, 5, 7, 6), of(0, 0, 1, 2, 3, 4, 5, 6), of(1, 0, 2, 3, 4, 5, 6, 7), of(0, 1, 2, 4, 3, 5, 6, 7), make([]api.Key, 2), make([]api.Key, 8),
		{{Number: 3}, {Number: 3, Revoked: true}}, {{Number: 3, Revoked: true}, {Number: 3}}, {{Number: 3, Bytes: [32]byte{1}}, {Number: 3, Bytes: [32]byte{2}}},
	}
	nine := of()
	for n := range 9 {
		nine = append(nine, key(n*n))
	}
	out = append(out, nine, without(nine, 511))
	for _, n := range outside() {
		out = append(out, of(n), without(of(n), 1), of(0, n), of(n, 0), of(n, top), of(top, n), of(n, n), of(1, n, 3), of(n, n+1), of(n-1, n), of(0, 1, 2, 3, 4, 5, 6, n), of(n, 1, 2, 3, 4, 5, 6, 7))
	}
	for i := range 8 {
		ring := of(full()...)
		ring[i].Number = -1
		out = append(out, ring)
		ring = of(full()...)
		ring[i].Number = top + 1
		out = append(out, ring)
		if i > 0 {
			ring = of(full()...)
			ring[i].Number = ring[i-1].Number
			out = append(out, ring)
		}
	}
	return out
}

// lays holds Bytes against the chapter's bytes.
func lays(t *testing.T, ring []api.Key) {
	t.Helper()
	if b, err := keys.Bytes(ring); err != api.OK || !bytes.Equal(b, sheet(ring)) {
		t.Errorf("Bytes(%v) = %x, %d; want %x", ring, b, err, sheet(ring))
	}
}

// reads holds Parse against the ring that bytes are.
func reads(t *testing.T, b []byte, want []api.Key) {
	t.Helper()
	if ring, err := keys.Parse(b); err != api.OK || !slices.Equal(ring, want) {
		t.Errorf("Parse(%x) = %v, %d; want %v", b, ring, err, want)
	}
}

// refuses holds Parse to ErrForm, with no ring.
func refuses(t *testing.T, what string, b []byte) {
	t.Helper()
	if ring, err := keys.Parse(b); err != api.ErrForm || len(ring) != 0 {
		t.Errorf("%s: Parse(%x) = %v, %d; want ErrForm", what, b, ring, err)
	}
}

// at is where a ring has the key of a number: one key after the other is asked; -1, if it has none.
func at(ring []api.Key, number int) int {
	return slices.IndexFunc(ring, func(k api.Key) bool { return k.Number == number })
}

// finds holds Find of a ring that may be against the chapter.
func finds(t *testing.T, ring []api.Key, number int) {
	t.Helper()
	want, code := [32]byte{}, api.ErrKey
	if i := at(ring, number); i >= 0 && !ring[i].Revoked {
		want, code = ring[i].Bytes, api.OK
	}
	if b, err := keys.Find(ring, number); b != want || err != code {
		t.Errorf("Find(%v, %d) = %x, %d; want %x, %d", ring, number, b, err, want, code)
	}
}

// revokes holds Revoke of a ring that may be against the chapter, and answers what it made.
func revokes(t *testing.T, ring []api.Key, number int) []api.Key {
	t.Helper()
	var want []api.Key
	code := api.ErrKey
	if i := at(ring, number); i >= 0 {
		want, code = slices.Clone(ring), api.OK
		want[i].Revoked = true
	}
	out, err := keys.Revoke(ring, number)
	if !slices.Equal(out, want) || err != code {
		t.Errorf("Revoke(%v, %d) = %v, %d; want %v, %d", ring, number, out, err, want, code)
	}
	return out
}

// asked are numbers below, between and above those of a ring, each of its own among them, and those that no key has.
func asked(ring []api.Key) []int {
	out := append(outside(), 0, 1, 2, top-1, top)
	for _, k := range ring {
		out = append(out, k.Number-1, k.Number, k.Number+1, k.Number+1<<32, -k.Number)
	}
	return out
}

// P21.1, P21.2: the chapter's examples.
func TestExamples(t *testing.T) {
	b, err := keys.Bytes(nil)
	if err != api.OK || !bytes.Equal(b, []byte{'r', 'i', 'n', 'g', 0, 0, 0, 0}) {
		t.Errorf("Bytes(no key) = %x, %d", b, err)
	}
	ring := of(3)
	if b, err := keys.Find(ring, 3); err != api.OK || b != key(3).Bytes {
		t.Errorf("Find(3) = %x, %d; want its bytes", b, err)
	}
	if b, err := keys.Find(ring, 4); err != api.ErrKey || b != [32]byte{} {
		t.Errorf("Find(4) = %x, %d; want ErrKey", b, err)
	}
	other, err := keys.Revoke(ring, 3)
	if err != api.OK || len(other) != 1 {
		t.Fatalf("Revoke(3) = %v, %d", other, err)
	}
	if b, err := keys.Find(other, 3); err != api.ErrKey || b != [32]byte{} {
		t.Errorf("Find(Revoke(3), 3) = %x, %d; want ErrKey", b, err)
	}
}

// P21.1: where each thing stands, a number's lowest byte first, written out.
func TestPlaces(t *testing.T) {
	ring := []api.Key{key(0x01020304), key(0x41424344)}
	ring[1].Revoked = true
	want := []byte{'r', 'i', 'n', 'g', 2, 0, 0, 0, 4, 3, 2, 1}
	want = append(want, ring[0].Bytes[:]...)
	want = append(want, 0, 0x44, 0x43, 0x42, 0x41)
	want = append(want, ring[1].Bytes[:]...)
	want = append(want, 1)
	if b, err := keys.Bytes(ring); err != api.OK || !bytes.Equal(b, want) {
		t.Errorf("Bytes(%v) = %x, %d; want %x", ring, b, err, want)
	}
	reads(t, want, ring)
}

// P21.1, P21.3: rings that may be are laid down, and read as themselves.
func TestMayBe(t *testing.T) {
	for _, ring := range good() {
		lays(t, ring)
		reads(t, sheet(ring), ring)
	}
}

// P21.3: so are those of any numbers and keys.
func TestThereAndBack(t *testing.T) {
	r := rand.New(rand.NewSource(211))
	counts := map[int]int{}
	for range 3000 {
		ring := loose(r)
		lays(t, ring)
		reads(t, sheet(ring), ring)
		counts[len(ring)]++
	}
	if len(counts) != 9 {
		t.Errorf("numbers of keys: %v", counts)
	}
}

// P21.1, P21.2: ErrArg of rings that may not be, with nothing else, whatever number is asked for.
func TestMayNotBe(t *testing.T) {
	for _, ring := range bad() {
		if b, err := keys.Bytes(ring); err != api.ErrArg || len(b) != 0 {
			t.Errorf("Bytes(%v) = %x, %d; want ErrArg", ring, b, err)
		}
		numbers := []int{0, 1, 3, -1, top, top + 1, ring[0].Number, ring[len(ring)-1].Number}
		for _, n := range numbers {
			if b, err := keys.Find(ring, n); err != api.ErrArg || b != [32]byte{} {
				t.Errorf("Find(%v, %d) = %x, %d; want ErrArg", ring, n, b, err)
			}
			if out, err := keys.Revoke(ring, n); err != api.ErrArg || len(out) != 0 {
				t.Errorf("Revoke(%v, %d) = %v, %d; want ErrArg", ring, n, out, err)
			}
		}
	}
}

// P21.1: ErrForm of each beginning of a ring's bytes, and of bytes more.
func TestBeginnings(t *testing.T) {
	for _, ring := range [][]api.Key{nil, of(0), without(of(top), 1), of(1, 3), of(full()...), without(of(full()...), 0xa5)} {
		b := sheet(ring)
		for n := range b {
			refuses(t, "a beginning", b[:n])
			refuses(t, "a beginning that is clipped", slices.Clone(b[:n]))
		}
		for _, more := range [][]byte{{0}, {1}, {0xff}, make([]byte, 36), make([]byte, 37), make([]byte, 38), []byte("ring"), piece(top, 0), b} {
			refuses(t, "bytes more", slices.Concat(b, more))
		}
		refuses(t, "a byte ahead", slices.Concat([]byte{0}, b))
		refuses(t, "all but the first", b[1:])
	}
	refuses(t, "nil", nil)
	refuses(t, "no bytes", []byte{})
	for n := range 400 {
		refuses(t, "bytes that were never written", make([]byte, n))
		refuses(t, "erased bytes", bytes.Repeat([]byte{0xff}, n))
	}
}

// P21.1: ErrForm of other letters ahead.
func TestLetters(t *testing.T) {
	for _, ring := range [][]api.Key{nil, of(full()...)} {
		for i := range 4 {
			for other := range 256 {
				b := sheet(ring)
				if b[i] == byte(other) {
					continue
				}
				b[i] = byte(other)
				refuses(t, "another letter", b)
			}
		}
		for _, text := range []string{"Ring", "RING", "gnir", "case", "mani", "slot", "rin\x00", "\x00\x00\x00\x00"} {
			refuses(t, "other letters", append([]byte(text), sheet(ring)[4:]...))
		}
	}
}

// P21.1: ErrForm of Numbers that no ring may have: too great, the same, below the one ahead.
func TestNumbers(t *testing.T) {
	for _, n := range []uint32{1 << 31, 1<<31 + 1, 1<<32 - 2, 1<<32 - 1, 0x80000100, 0xff000000} {
		refuses(t, "one key", append(front(1), piece(n, 0)...))
		refuses(t, "the first key", slices.Concat(front(2), piece(n, 0), piece(top, 0)))
		refuses(t, "the second key", slices.Concat(front(2), piece(3, 0), piece(n, 0)))
		refuses(t, "both", slices.Concat(front(2), piece(n-1, 0), piece(n, 0)))
	}
	reads(t, append(front(1), piece(top, 0)...), []api.Key{plain(top, false)})
	reads(t, slices.Concat(front(2), piece(3, 0), piece(4, 1)), []api.Key{plain(3, false), plain(4, true)})
	refuses(t, "the same", slices.Concat(front(2), piece(3, 0), piece(3, 0)))
	refuses(t, "the same, revoked", slices.Concat(front(2), piece(3, 0), piece(3, 1)))
	refuses(t, "below", slices.Concat(front(2), piece(4, 0), piece(3, 0)))
	refuses(t, "below, by its highest byte", slices.Concat(front(2), piece(0x01000000, 0), piece(0x00ffffff, 0)))
	refuses(t, "below the one ahead alone", slices.Concat(front(3), piece(1, 0), piece(5, 0), piece(4, 0)))
}

// P21.1: ErrForm of a last byte of a key that is neither 00 nor 01.
func TestLastBytes(t *testing.T) {
	for last := range 256 {
		for place := range 3 {
			var want []api.Key
			b := front(3)
			for i := range 3 {
				mark := byte(i % 2)
				if i == place {
					mark = byte(last)
				}
				b = append(b, piece(uint32(i), mark)...)
				want = append(want, plain(i, mark == 1))
			}
			if last > 1 {
				refuses(t, "another last byte", b)
				continue
			}
			reads(t, b, want)
		}
	}
}

// P21.1: ErrForm of a number of keys that does not fit the bytes, and of more than eight.
func TestCounts(t *testing.T) {
	for have := range 12 {
		var want []api.Key
		var behind []byte
		for n := range have {
			want = append(want, plain(n, false))
			behind = append(behind, piece(uint32(n), 0)...)
		}
		for _, count := range []uint32{0, 1, 2, 3, 4, 5, 6, 7, 8, 9, 10, 11, 255, 256, 257, 264, 65536, 65537, 1 << 24, 1<<24 + 1, top, 1 << 31, 1<<31 + 1, 1<<31 + 8, 1<<32 - 8, 1<<32 - 1} {
			page := append(front(count), behind...)
			if int(count) == have && have <= 8 {
				reads(t, page, want)
				continue
			}
			refuses(t, "another number of keys", page)
		}
	}
	var behind []byte
	for n := range uint32(1 << 16) {
		behind = append(behind, piece(n, 0)...)
	}
	refuses(t, "keys of another number", append(front(1<<16), behind...))
	refuses(t, "keys, of which the first eight are counted", append(front(8), behind...))
}

// P21.1: ErrForm of the bytes of rings that may not be: Parse takes none that Bytes would not lay down.
func TestSheetsThatMayNotBe(t *testing.T) {
	tried := 0
	for _, ring := range bad() {
		// Of numbers that four bytes do not hold the bytes are another ring's, which may be.
		if !slices.ContainsFunc(ring, func(k api.Key) bool { return k.Number < math.MinInt32 || k.Number > math.MaxUint32 }) {
			refuses(t, "may not be", sheet(ring))
			tried++
		}
	}
	if tried < 100 {
		t.Errorf("%d tried", tried)
	}
}

// P21.1, P21.3: any bit turned: what is read, if anything is, is laid down as the same bytes, and is another ring.
func TestTurnedBits(t *testing.T) {
	taken, refused := 0, 0
	for _, ring := range [][]api.Key{nil, of(16), without(of(3, 5, 9), 2), of(full()...)} {
		b := sheet(ring)
		for i := range b {
			for bit := range 8 {
				other := slices.Clone(b)
				other[i] ^= 1 << bit
				back, err := keys.Parse(other)
				if err != api.OK {
					refuses(t, "a turned bit", other)
					refused++
					continue
				}
				taken++
				if again, err := keys.Bytes(back); err != api.OK || !bytes.Equal(again, other) || slices.Equal(back, ring) {
					t.Errorf("Parse(%x) = %v, which is laid down as %x, %d", other, back, again, err)
				}
			}
		}
	}
	if taken < 1000 || refused < 100 {
		t.Errorf("%d taken, %d refused", taken, refused)
	}
}

// R1, P21.3: any bytes: Parse ends and does not panic; what it takes is laid down as the same bytes.
func TestAnyBytes(t *testing.T) {
	r := rand.New(rand.NewSource(212))
	taken := 0
	for range 5000 {
		b := front(uint32(r.Intn(4)))
		for range r.Intn(4) {
			b = append(b, piece(uint32(r.Intn(12)), byte(r.Intn(4)/2))...)
		}
		switch r.Intn(8) {
		case 0:
			b = b[:r.Intn(len(b))]
		case 1:
			r.Read(b)
		}
		ring, err := keys.Parse(b)
		if err != api.OK {
			refuses(t, "any bytes", b)
			continue
		}
		taken++
		lays(t, ring)
		if !bytes.Equal(sheet(ring), b) {
			t.Errorf("Parse(%x) = %v", b, ring)
		}
	}
	if taken < 300 {
		t.Errorf("%d taken", taken)
	}
}

// P21.2: Find and Revoke of the first key, the last and those between, of numbers below, between and above all, of revoked keys, of numbers that no key has.
func TestFindAndRevoke(t *testing.T) {
	for _, ring := range good() {
		for _, n := range asked(ring) {
			finds(t, ring, n)
			revokes(t, ring, n)
		}
	}
}

// P21.2: each ring of numbers below 9, of up to eight keys, asked for all of them.
func TestAllSmallRings(t *testing.T) {
	for set := range 1 << 9 {
		var numbers []int
		for n := range 9 {
			if set>>n&1 == 1 {
				numbers = append(numbers, n)
			}
		}
		if len(numbers) > api.MaxKeys {
			continue
		}
		for _, mask := range []int{0, 1, 0x55, 0xaa, 0xff} {
			ring := without(of(numbers...), mask)
			for n := -1; n <= 9; n++ {
				finds(t, ring, n)
				revokes(t, ring, n)
			}
		}
	}
}

// P21.2: a ring has a key by its number alone: those whose bytes are the same, or all 00, are told from each other.
func TestSameBytes(t *testing.T) {
	for _, b := range [][32]byte{{}, {1}} {
		ring := []api.Key{{Number: 2, Bytes: b}, {Number: 4, Bytes: b, Revoked: true}, {Number: 6, Bytes: b}}
		for n := range 8 {
			finds(t, ring, n)
			revokes(t, ring, n)
		}
	}
}

// P21.3: a key that was revoked is not found any more, whatever is revoked behind it; others are found as they were.
func TestRevokedStays(t *testing.T) {
	r := rand.New(rand.NewSource(213))
	for range 300 {
		ring := loose(r)
		was := slices.Clone(ring)
		gone := map[int]int{}
		for range 12 {
			if len(ring) == 0 {
				break
			}
			n := ring[r.Intn(len(ring))].Number
			ring = revokes(t, ring, n)
			gone[n] = 1
			for _, k := range was {
				want, code := k.Bytes, api.OK
				if k.Revoked || gone[k.Number] == 1 {
					want, code = [32]byte{}, api.ErrKey
				}
				if b, err := keys.Find(ring, k.Number); b != want || err != code {
					t.Errorf("Find(%v, %d) = %x, %d; want %x, %d", ring, k.Number, b, err, want, code)
				}
			}
			lays(t, ring)
			reads(t, sheet(ring), ring)
		}
	}
}

// spare is a ring with room behind it, which is full of other keys.
func spare(ring []api.Key) (short, long []api.Key) {
	long = append(slices.Clone(ring), of(7001, 7002, 7003)...)
	return long[:len(ring)], long
}

// R2: a ring that is handed in is not written into, nor its spare room; what is handed back shares no memory with it.
func TestRingStays(t *testing.T) {
	for _, ring := range [][]api.Key{of(), of(3), of(3, 5), of(full()...), without(of(full()...), 0x5a), bad()[0], of(5, 4)} {
		short, long := spare(ring)
		was := slices.Clone(long)
		for _, n := range asked(ring) {
			b, _ := keys.Bytes(short)
			for i := range b {
				b[i] = 0xee
			}
			keys.Find(short, n)
			out, _ := keys.Revoke(short, n)
			out = out[:cap(out)]
			for i := range out {
				out[i] = api.Key{Number: 9999, Bytes: [32]byte{0xee}, Revoked: true}
			}
			if !slices.Equal(long, was) {
				t.Fatalf("the ring %v is now %v", was, long)
			}
		}
	}
}

// R2: what Revoke hands back stays, whatever is written into the ring afterwards; so does what a later call hands back.
func TestAnswerStays(t *testing.T) {
	ring := of(full()...)
	one, _ := keys.Revoke(ring, 255)
	two, _ := keys.Revoke(ring, 255)
	again, _ := keys.Revoke(one, 255)
	want := without(of(full()...), 4)
	for i := range ring {
		ring[i] = api.Key{Number: 9}
		two[i] = api.Key{Number: 10}
	}
	if !slices.Equal(one, want) || !slices.Equal(again, want) {
		t.Errorf("Revoke: %v and %v, want %v", one, again, want)
	}
	one[0].Number = 77
	if !slices.Equal(again, want) {
		t.Errorf("Revoke of a key that is revoked: %v, want %v", again, want)
	}
}

// R2: bytes that are handed in are not written into, nor their spare room; what is read does not hang on them afterwards.
func TestBytesStay(t *testing.T) {
	for _, ring := range [][]api.Key{of(), of(3), without(of(full()...), 0x5a)} {
		long := append(sheet(ring), 1, 2, 3, 4, 5, 6, 7, 8)
		was := slices.Clone(long)
		short := long[:len(long)-8]
		back, err := keys.Parse(short)
		if err != api.OK || !bytes.Equal(long, was) {
			t.Errorf("the bytes %x are now %x, %d", was, long, err)
		}
		for i := range long {
			long[i] = 0xee
		}
		if !slices.Equal(back, ring) {
			t.Errorf("the ring %v is now %v", ring, back)
		}
		b, _ := keys.Bytes(back)
		for i := range back {
			back[i] = api.Key{}
		}
		if !bytes.Equal(b, sheet(ring)) {
			t.Errorf("the bytes of %v are now %x", ring, b)
		}
	}
}

// R2: one call does not hang on those ahead of it.
func TestCallsAlone(t *testing.T) {
	ring := of(full()...)
	for range 3 {
		reads(t, sheet(ring), ring)
		refuses(t, "a beginning", sheet(ring)[:40])
		lays(t, ring)
		finds(t, ring, 256)
		revokes(t, ring, 256)
		finds(t, ring, 256)
		reads(t, sheet(nil), nil)
	}
}
