package sha256_test

import (
	"bytes"
	std "crypto/sha256"
	"encoding"
	"encoding/binary"
	"encoding/hex"
	"math"
	"math/big"
	"math/rand"
	"slices"
	"strings"
	"testing"

	"casemate/api"
	"casemate/sha256"
)

// known are texts with their digests: the chapter's examples, and those of FIPS 180-4.
var known = []struct{ text, sum string }{
	{"", "e3b0c442 98fc1c14 9afbf4c8 996fb924 27ae41e4 649b934c a495991b 7852b855"},
	{"abc", "ba7816bf 8f01cfea 414140de 5dae2223 b00361a3 96177a9c b410ff61 f20015ad"},
	{"abcdbcdecdefdefgefghfghighijhijkijkljklmklmnlmnomnopnopq", "248d6a61 d20638b8 e5c02693 0c3e6039 a33ce459 64ff2167 f6ecedd4 19db06c1"},
}

// lengths are those around multiples of 64 bytes, and around where the padding takes one block more.
func lengths() []int {
	var out []int
	for n := range 200 {
		out = append(out, n)
	}
	for _, m := range []int{256, 512, 4096, 65536, 1 << 20} {
		for d := -10; d <= 10; d++ {
			out = append(out, m+d)
		}
	}
	return out
}

// some makes bytes, unlike for unlike seeds.
func some(n, seed int) []byte {
	p := make([]byte, n)
	for i := range p {
		p[i] = byte(41*seed + 7*i + i/251 + 1)
	}
	return p
}

// spaced writes a digest as the chapter does.
func spaced(d [32]byte) string {
	var words []string
	for at := 0; at < len(d); at += 4 {
		words = append(words, hex.EncodeToString(d[at:at+4]))
	}
	return strings.Join(words, " ")
}

// prime asks all numbers below p whether they divide it.
func prime(p int) bool {
	for d := 2; d < p; d++ {
		if p%d == 0 {
			return false
		}
	}
	return p > 1
}

// fraction is what the first 32 bits behind the point of p's root are, found among great whole numbers: the greatest r whose power is not above p * 2^(32 power).
func fraction(p int, power int64) uint32 {
	limit := new(big.Int).Lsh(big.NewInt(int64(p)), uint(32*power))
	low, high := big.NewInt(0), new(big.Int).Lsh(big.NewInt(int64(p)), 32)
	for low.Cmp(high) < 0 {
		mid := new(big.Int).Add(low, high)
		mid.Add(mid, big.NewInt(1)).Rsh(mid, 1)
		if new(big.Int).Exp(mid, big.NewInt(power), nil).Cmp(limit) <= 0 {
			low = mid
		} else {
			high.Sub(mid, big.NewInt(1))
		}
	}
	return uint32(new(big.Int).And(low, big.NewInt(math.MaxUint32)).Uint64())
}

// padded is what P13.2 says, byte by byte.
func padded(data []byte) []byte {
	out := append([]byte{}, data...)
	out = append(out, 0x80)
	for (len(out)+8)%64 != 0 {
		out = append(out, 0x00)
	}
	return binary.BigEndian.AppendUint64(out, 8*uint64(len(data)))
}

// libraryBlock has the library's digest take one block behind a state.
func libraryBlock(t *testing.T, state [8]uint32, block []byte) [8]uint32 {
	t.Helper()
	raw := []byte("sha\x03")
	for _, x := range state {
		raw = binary.BigEndian.AppendUint32(raw, x)
	}
	raw = append(raw, make([]byte, 64)...)
	raw = binary.BigEndian.AppendUint64(raw, 0)
	h := std.New()
	if err := h.(encoding.BinaryUnmarshaler).UnmarshalBinary(raw); err != nil {
		t.Fatal(err)
	}
	h.Write(block)
	raw, err := h.(encoding.BinaryMarshaler).MarshalBinary()
	if err != nil {
		t.Fatal(err)
	}
	for i := range state {
		state[i] = binary.BigEndian.Uint32(raw[4+4*i:])
	}
	return state
}

// anyState makes a state of some numbers.
func anyState(r *rand.Rand) [8]uint32 {
	var out [8]uint32
	for i := range out {
		out[i] = r.Uint32()
	}
	return out
}

// P13.1: the n least primes, rising, for each n that may be.
func TestPrimes(t *testing.T) {
	var want []int
	for p := 0; len(want) < 100; p++ {
		if prime(p) {
			want = append(want, p)
		}
	}
	for n := 0; n <= 100; n++ {
		got, err := sha256.Primes(n)
		if err != api.OK || !slices.Equal(got, want[:n]) {
			t.Errorf("Primes(%d) = %v, %d, want %v", n, got, err, want[:n])
		}
	}
	if last, _ := sha256.Primes(100); last[99] != 541 {
		t.Errorf("the last of Primes(100) is %d, want 541", last[99])
	}
}

// P13.1: ErrArg, and no primes, for numbers that may not be.
func TestPrimesOutside(t *testing.T) {
	for _, n := range []int{-1, -2, -100, 101, 102, 1000, 1 << 31, 1 << 32, 1<<32 + 1, math.MinInt32, math.MaxInt32, math.MinInt, math.MinInt + 1, math.MaxInt} {
		if got, err := sha256.Primes(n); err != api.ErrArg || len(got) != 0 {
			t.Errorf("Primes(%d) = %v, %d, want none, %d", n, got, err, api.ErrArg)
		}
	}
}

// P13.1, R2: the primes are new memory with each call.
func TestPrimesNewMemory(t *testing.T) {
	a, _ := sha256.Primes(10)
	clear(a[:cap(a)])
	if b, _ := sha256.Primes(10); b[0] != 2 || b[9] != 29 {
		t.Errorf("Primes(10) = %v behind what was written into an earlier answer", b)
	}
}

// P13.1: the first 32 bits behind the point of square roots; the chapter's example.
func TestStart(t *testing.T) {
	got := sha256.Start()
	for i, p := range []int{2, 3, 5, 7, 11, 13, 17, 19} {
		if want := fraction(p, 2); got[i] != want {
			t.Errorf("Start()[%d] = %08x, want %08x", i, got[i], want)
		}
	}
	if got[0] != 0x6a09e667 || got[7] != 0x5be0cd19 {
		t.Errorf("Start() = %08x", got)
	}
}

// P13.1: the first 32 bits behind the point of cube roots; the chapter's example.
func TestRounds(t *testing.T) {
	got := sha256.Rounds()
	i := 0
	for p := 0; i < len(got); p++ {
		if !prime(p) {
			continue
		}
		if want := fraction(p, 3); got[i] != want {
			t.Errorf("Rounds()[%d] = %08x, want %08x", i, got[i], want)
		}
		i++
	}
	if got[0] != 0x428a2f98 || got[63] != 0xc67178f2 {
		t.Errorf("Rounds() = %08x", got)
	}
}

// P13.2: data, 80, noughts, the number of bits, at all lengths around a multiple of 64.
func TestPad(t *testing.T) {
	for _, n := range lengths() {
		data := some(n, n)
		got, want := sha256.Pad(data), padded(data)
		if !bytes.Equal(got, want) {
			t.Errorf("Pad of %d bytes: %d bytes, want %d; its end is %x", n, len(got), len(want), got[max(0, len(got)-16):])
		}
	}
}

// P13.2: where the padding begins to take one block more, and what it says of the bits, written out.
func TestPadEdges(t *testing.T) {
	for _, c := range []struct{ bytes, long int }{{0, 64}, {1, 64}, {54, 64}, {55, 64}, {56, 128}, {63, 128}, {64, 128}, {65, 128}, {119, 128}, {120, 192}, {128, 192}} {
		if got := sha256.Pad(make([]byte, c.bytes)); len(got) != c.long {
			t.Errorf("Pad of %d bytes has %d, want %d", c.bytes, len(got), c.long)
		}
	}
	none := append([]byte{0x80}, make([]byte, 63)...)
	if got := sha256.Pad(nil); !bytes.Equal(got, none) {
		t.Errorf("Pad(nil) = %x, want %x", got, none)
	}
	if got := sha256.Pad([]byte{}); !bytes.Equal(got, none) {
		t.Errorf("Pad of no bytes = %x, want %x", got, none)
	}
	got := sha256.Pad(make([]byte, 0x12345))
	if end := got[len(got)-8:]; !bytes.Equal(end, []byte{0, 0, 0, 0, 0, 0x09, 0x1a, 0x28}) {
		t.Errorf("Pad of 12345 (of base 16) bytes ends with %x", end)
	}
}

// P13.2, R2: what is handed in is not written into, nor its spare room; the answer shares none with it.
func TestPadMemory(t *testing.T) {
	for _, n := range []int{0, 3, 55, 56, 64} {
		room := some(n+200, 5)
		before := slices.Clone(room)
		got := sha256.Pad(room[:n])
		for i := range got {
			got[i] ^= 0xff
		}
		if !bytes.Equal(room, before) {
			t.Errorf("Pad of %d bytes wrote into what it was handed, or shares it", n)
		}
	}
}

// P13.3: 64 bytes behind a state, for some states and blocks, as the library reckons them.
func TestBlock(t *testing.T) {
	r := rand.New(rand.NewSource(13))
	for range 500 {
		state, block := anyState(r), make([]byte, 64)
		r.Read(block)
		got, err := sha256.Block(state, block)
		if want := libraryBlock(t, state, block); err != api.OK || got != want {
			t.Fatalf("Block(%08x, %x) = %08x, %d, want %08x", state, block, got, err, want)
		}
	}
}

// P13.3: states and blocks of noughts, of ones and of one bit: sums that go beyond 32 bits, and each bit's way.
func TestBlockEdges(t *testing.T) {
	var states [][8]uint32
	states = append(states, [8]uint32{}, sha256.Start())
	full := [8]uint32{}
	for i := range full {
		full[i] = math.MaxUint32
		one := [8]uint32{}
		one[i] = 1
		states = append(states, one)
		one[i] = 1 << 31
		states = append(states, one)
	}
	states = append(states, full)
	blocks := [][]byte{make([]byte, 64), bytes.Repeat([]byte{0xff}, 64)}
	for bit := range 512 {
		b := make([]byte, 64)
		b[bit/8] = 1 << (bit % 8)
		blocks = append(blocks, b)
	}
	for i, block := range blocks {
		state := states[i%len(states)]
		got, err := sha256.Block(state, block)
		if want := libraryBlock(t, state, block); err != api.OK || got != want {
			t.Errorf("Block(%08x, %x) = %08x, %d, want %08x", state, block, got, err, want)
		}
	}
	for _, state := range states {
		for _, block := range blocks[:2] {
			got, err := sha256.Block(state, block)
			if want := libraryBlock(t, state, block); err != api.OK || got != want {
				t.Errorf("Block(%08x, %x) = %08x, %d, want %08x", state, block, got, err, want)
			}
		}
	}
}

// P13.3: ErrArg, and noughts, for blocks of another length.
func TestBlockLength(t *testing.T) {
	for _, n := range []int{0, 1, 4, 32, 60, 63, 65, 68, 127, 128, 192, 4096} {
		if got, err := sha256.Block(sha256.Start(), some(n, 1)); err != api.ErrArg || got != [8]uint32{} {
			t.Errorf("Block of %d bytes = %08x, %d, want noughts, %d", n, got, err, api.ErrArg)
		}
	}
	if got, err := sha256.Block(sha256.Start(), nil); err != api.ErrArg || got != [8]uint32{} {
		t.Errorf("Block of nil = %08x, %d, want noughts, %d", got, err, api.ErrArg)
	}
}

// P13.3, R2: the block is not written into, nor what lies about it; the state that was handed in stays.
func TestBlockMemory(t *testing.T) {
	room := some(192, 7)
	before := slices.Clone(room)
	state := sha256.Start()
	a, _ := sha256.Block(state, room[64:128])
	b, _ := sha256.Block(state, room[64:128])
	if !bytes.Equal(room, before) || state != sha256.Start() || a != b {
		t.Errorf("Block changed what it was handed, or answered %08x, then %08x", a, b)
	}
}

// P13.4: the chapter's examples, and those of FIPS 180-4.
func TestSumKnown(t *testing.T) {
	for _, k := range known {
		if got := spaced(sha256.Sum([]byte(k.text))); got != k.sum {
			t.Errorf("Sum(%q) = %s, want %s", k.text, got, k.sum)
		}
	}
	million := bytes.Repeat([]byte{'a'}, 1000000)
	if got := spaced(sha256.Sum(million)); got != "cdc76e5c 9914fb92 81a1c7e2 84d73e67 f1809a48 a497200e 046d39cc c7112cd0" {
		t.Errorf("Sum of a million a = %s", got)
	}
	if sha256.Sum(nil) != sha256.Sum([]byte{}) {
		t.Errorf("Sum(nil) = %x", sha256.Sum(nil))
	}
}

// P13.4: Start, what Block makes of each 64 bytes of Pad, four bytes a word; and what the library says.
func TestSum(t *testing.T) {
	for _, n := range lengths() {
		data := some(n, n)
		got := sha256.Sum(data)
		if want := std.Sum256(data); got != want {
			t.Errorf("Sum of %d bytes = %x, want %x", n, got, want)
		}
		if n > 1000 {
			continue
		}
		state := sha256.Start()
		for block := range slices.Chunk(sha256.Pad(data), 64) {
			state, _ = sha256.Block(state, block)
		}
		var want []byte
		for _, x := range state {
			want = binary.BigEndian.AppendUint32(want, x)
		}
		if !bytes.Equal(got[:], want) {
			t.Errorf("Sum of %d bytes = %x, by its blocks %x", n, got, want)
		}
	}
}

// P13.4, R2: what is handed in is not written into, nor its spare room.
func TestSumMemory(t *testing.T) {
	for _, n := range []int{0, 3, 55, 56, 63, 64, 65, 128} {
		room := some(n+200, 9)
		before := slices.Clone(room)
		sha256.Sum(room[:n])
		if !bytes.Equal(room, before) {
			t.Errorf("Sum of %d bytes wrote into what it was handed", n)
		}
	}
}

// P13.5: a new Hash has no bytes, and writes of no bytes leave it so.
func TestHashEmpty(t *testing.T) {
	h := sha256.New()
	if h == nil {
		t.Fatal("New() is nil")
	}
	if got := spaced(h.Sum()); got != known[0].sum {
		t.Errorf("Sum of a new Hash = %s", got)
	}
	for _, b := range [][]byte{nil, {}} {
		if err := h.Write(b); err != api.OK {
			t.Errorf("Write of no bytes = %d", err)
		}
		if got := spaced(h.Sum()); got != known[0].sum {
			t.Errorf("Sum behind a write of no bytes = %s", got)
		}
	}
	again := sha256.New()
	again.Write(nil)
	if got := spaced(again.Sum()); got != known[0].sum {
		t.Errorf("Sum of a Hash whose first call was a write of no bytes = %s", got)
	}
}

// P13.5: ErrNil, and noughts, of none.
func TestHashNil(t *testing.T) {
	var h *sha256.Hash
	for _, b := range [][]byte{nil, {}, {1}, some(64, 1), some(200, 2)} {
		if err := h.Write(b); err != api.ErrNil {
			t.Errorf("Write of %d bytes to none = %d, want %d", len(b), err, api.ErrNil)
		}
	}
	if got := h.Sum(); got != [32]byte{} {
		t.Errorf("Sum of none = %x", got)
	}
}

// P13.5: the sum is that of all bytes; they stay, and more may come behind a sum, at each length.
func TestHashSums(t *testing.T) {
	h := sha256.New()
	var all []byte
	for n := range 400 {
		want := std.Sum256(all)
		for range 2 {
			if got := h.Sum(); got != want {
				t.Fatalf("Sum behind %d bytes = %x, want %x", n, got, want)
			}
		}
		if err := h.Write([]byte{byte(3 * n)}); err != api.OK {
			t.Fatalf("Write = %d", err)
		}
		all = append(all, byte(3*n))
	}
}

// P13.5: two of them know nothing of each other.
func TestHashesApart(t *testing.T) {
	a, b := sha256.New(), sha256.New()
	a.Write([]byte("ab"))
	b.Write([]byte("x"))
	a.Write([]byte("c"))
	if got := spaced(a.Sum()); got != known[1].sum {
		t.Errorf("Sum of abc = %s", got)
	}
	if b.Sum() != sha256.Sum([]byte("x")) || sha256.New().Sum() != sha256.Sum(nil) {
		t.Error("one Hash has another one's bytes")
	}
}

// P13.5, R2: what is written is neither kept nor changed: the writer may use its memory again.
func TestHashMemory(t *testing.T) {
	for _, n := range []int{1, 3, 63, 64, 65, 100, 130} {
		room := some(n+100, n)
		before := slices.Clone(room)
		h := sha256.New()
		h.Write(room[:n])
		h.Sum()
		if !bytes.Equal(room, before) {
			t.Errorf("Write of %d bytes wrote into what it was handed", n)
		}
		clear(room)
		if h.Sum() != std.Sum256(before[:n]) {
			t.Errorf("a Hash of %d bytes keeps the writer's memory", n)
		}
	}
}

// P13.6: two parts, cut at each place.
func TestPartsTwo(t *testing.T) {
	data := some(200, 3)
	want := std.Sum256(data)
	for cut := range len(data) + 1 {
		h := sha256.New()
		h.Write(data[:cut])
		h.Write(data[cut:])
		if got := h.Sum(); got != want {
			t.Errorf("Sum of %d and %d bytes = %x, want %x", cut, len(data)-cut, got, want)
		}
	}
}

// P13.6: parts of one length each, from one byte to more than two blocks.
func TestPartsEven(t *testing.T) {
	data := some(1000, 4)
	want := std.Sum256(data)
	for n := 1; n <= 140; n++ {
		h := sha256.New()
		for part := range slices.Chunk(data, n) {
			h.Write(part)
		}
		if got := h.Sum(); got != want {
			t.Errorf("Sum by parts of %d bytes = %x, want %x", n, got, want)
		}
	}
}

// P13.6: parts of any length, empty ones and sums between them.
func TestPartsAny(t *testing.T) {
	r := rand.New(rand.NewSource(136))
	for range 500 {
		h := sha256.New()
		var all []byte
		for range r.Intn(20) {
			part := make([]byte, r.Intn(1+r.Intn(300)))
			r.Read(part)
			if err := h.Write(part); err != api.OK {
				t.Fatalf("Write = %d", err)
			}
			all = append(all, part...)
			if r.Intn(3) == 0 && h.Sum() != std.Sum256(all) {
				t.Fatalf("Sum between writes, of %d bytes, is not that of them all", len(all))
			}
		}
		if h.Sum() != sha256.Sum(all) || h.Sum() != std.Sum256(all) {
			t.Fatalf("Sum of %d bytes is not that of them all", len(all))
		}
	}
}
