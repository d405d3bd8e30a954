package sha512_test

import (
	"bytes"
	std "crypto/sha512"
	"encoding"
	"encoding/binary"
	"encoding/hex"
	"math"
	"math/big"
	"math/rand"
	"slices"
	"strings"
	"testing"

	"casemate/api"
	"casemate/sha256"
	"casemate/sha512"
)

// known are texts with their digests: the chapter's example, that of nothing, and that of two blocks in FIPS 180-4.
var known = []struct{ text, sum string }{
	{"", "cf83e135 7eefb8bd f1542850 d66d8007 d620e405 0b5715dc 83f4a921 d36ce9ce 47d0d13c 5d85f2b0 ff8318d2 877eec2f 63b931bd 47417a81 a538327a f927da3e"},
	{"abc", "ddaf35a1 93617aba cc417349 ae204131 12e6fa4e 89a97ea2 0a9eeee6 4b55d39a 2192992a 274fc1a8 36ba3c23 a3feebbd 454d4423 643ce80e 2a9ac94f a54ca49f"},
	{"abcdefghbcdefghicdefghijdefghijkefghijklfghijklmghijklmnhijklmnoijklmnopjklmnopqklmnopqrlmnopqrsmnopqrstnopqrstu", "8e959b75 dae313da 8cf4f728 14fc143f 8f7779c6 eb9f7fa1 7299aead b6889018 501d289e 4900f7e4 331b99de c4b5433a c7d329ee b6dd2654 5e96e55b 874be909"},
}

// lengths are those around multiples of 128 bytes, and around where the padding takes one block more.
func lengths() []int {
	var out []int
	for n := range 400 {
		out = append(out, n)
	}
	for _, m := range []int{512, 1024, 4096, 65536, 1 << 20} {
		for d := -18; d <= 18; d++ {
			out = append(out, m+d)
		}
	}
	return out
}

// some makes bytes, unlike for unlike seeds.
func some(n, seed int) []byte {
	p := make([]byte, n)
	for i := range p {
		p[i] = byte(41*seed + 7*i + i/251 + 1)
	}
	return p
}

// spaced writes a digest as the chapter does.
func spaced(d [64]byte) string {
	var words []string
	for at := 0; at < len(d); at += 4 {
		words = append(words, hex.EncodeToString(d[at:at+4]))
	}
	return strings.Join(words, " ")
}

// primes are the n least ones; each number below one is asked whether it divides it.
func primes(n int) []int {
	var out []int
	for p := 2; len(out) < n; p++ {
		divides := false
		for d := 2; d < p; d++ {
			divides = divides || p%d == 0
		}
		if !divides {
			out = append(out, p)
		}
	}
	return out
}

// fraction is what the first 64 bits behind the point of p's root are, found among great whole numbers: the greatest r whose power is not above p * 2^(64 power).
func fraction(p int, power int64) uint64 {
	limit := new(big.Int).Lsh(big.NewInt(int64(p)), uint(64*power))
	low, high := big.NewInt(0), new(big.Int).Lsh(big.NewInt(int64(p)), 64)
	for low.Cmp(high) < 0 {
		mid := new(big.Int).Add(low, high)
		mid.Add(mid, big.NewInt(1)).Rsh(mid, 1)
		if new(big.Int).Exp(mid, big.NewInt(power), nil).Cmp(limit) <= 0 {
			low = mid
		} else {
			high.Sub(mid, big.NewInt(1))
		}
	}
	return new(big.Int).And(low, new(big.Int).SetUint64(math.MaxUint64)).Uint64()
}

// padded is what P14.2 says, byte by byte.
func padded(data []byte) []byte {
	out := append([]byte{}, data...)
	out = append(out, 0x80)
	for (len(out)+16)%128 != 0 {
		out = append(out, 0x00)
	}
	out = binary.BigEndian.AppendUint64(out, 0)
	return binary.BigEndian.AppendUint64(out, 8*uint64(len(data)))
}

// libraryBlock has the library's digest take one block behind a state.
func libraryBlock(t *testing.T, state [8]uint64, block []byte) [8]uint64 {
	t.Helper()
	raw := []byte("sha\x07")
	for _, x := range state {
		raw = binary.BigEndian.AppendUint64(raw, x)
	}
	raw = append(raw, make([]byte, 128)...)
	raw = binary.BigEndian.AppendUint64(raw, 0)
	h := std.New()
	if err := h.(encoding.BinaryUnmarshaler).UnmarshalBinary(raw); err != nil {
		t.Fatal(err)
	}
	h.Write(block)
	raw, err := h.(encoding.BinaryMarshaler).MarshalBinary()
	if err != nil {
		t.Fatal(err)
	}
	for i := range state {
		state[i] = binary.BigEndian.Uint64(raw[4+8*i:])
	}
	return state
}

// anyState makes a state of some numbers.
func anyState(r *rand.Rand) [8]uint64 {
	var out [8]uint64
	for i := range out {
		out[i] = r.Uint64()
	}
	return out
}

// P14.1: the first 64 bits behind the point of square roots; the chapter's example.
func TestStart(t *testing.T) {
	got := sha512.Start()
	for i, p := range primes(len(got)) {
		if want := fraction(p, 2); got[i] != want {
			t.Errorf("Start()[%d] = %016x, want %016x", i, got[i], want)
		}
	}
	if got[0] != 0x6a09e667f3bcc908 || got[7] != 0x5be0cd19137e2179 {
		t.Errorf("Start() = %016x", got)
	}
}

// P14.1: the first 64 bits behind the point of cube roots; the chapter's example.
func TestRounds(t *testing.T) {
	got := sha512.Rounds()
	for i, p := range primes(len(got)) {
		if want := fraction(p, 3); got[i] != want {
			t.Errorf("Rounds()[%d] = %016x, want %016x", i, got[i], want)
		}
	}
	if got[0] != 0x428a2f98d728ae22 || got[79] != 0x6c44198c4a475817 {
		t.Errorf("Rounds() = %016x", got)
	}
}

// P14.1: the first 32 of the bits are those of layer 13.
func TestConstantsOfLayerBelow(t *testing.T) {
	start, rounds := sha512.Start(), sha512.Rounds()
	for i, x := range sha256.Start() {
		if uint32(start[i]>>32) != x {
			t.Errorf("Start()[%d] = %016x, in layer 13 %08x", i, start[i], x)
		}
	}
	for i, x := range sha256.Rounds() {
		if uint32(rounds[i]>>32) != x {
			t.Errorf("Rounds()[%d] = %016x, in layer 13 %08x", i, rounds[i], x)
		}
	}
}

// P14.1, R2: the constants are the same with each call, whatever was done to those that came out.
func TestConstantsAgain(t *testing.T) {
	start, rounds := sha512.Start(), sha512.Rounds()
	clear(start[:])
	clear(rounds[:])
	if sha512.Start()[0] != 0x6a09e667f3bcc908 || sha512.Rounds()[0] != 0x428a2f98d728ae22 {
		t.Error("what was written into an earlier answer is seen in a later one")
	}
}

// P14.2: data, 80, noughts, the number of bits, at all lengths around a multiple of 128.
func TestPad(t *testing.T) {
	for _, n := range lengths() {
		data := some(n, n)
		got, want := sha512.Pad(data), padded(data)
		if !bytes.Equal(got, want) {
			t.Errorf("Pad of %d bytes: %d bytes, want %d; its end is %x", n, len(got), len(want), got[max(0, len(got)-32):])
		}
	}
}

// P14.2: where the padding begins to take one block more, and what it says of the bits, written out.
func TestPadEdges(t *testing.T) {
	for _, c := range []struct{ bytes, long int }{{0, 128}, {1, 128}, {64, 128}, {110, 128}, {111, 128}, {112, 256}, {113, 256}, {119, 256}, {120, 256}, {127, 256}, {128, 256}, {129, 256}, {239, 256}, {240, 384}, {255, 384}, {256, 384}} {
		if got := sha512.Pad(make([]byte, c.bytes)); len(got) != c.long {
			t.Errorf("Pad of %d bytes has %d, want %d", c.bytes, len(got), c.long)
		}
	}
	none := append([]byte{0x80}, make([]byte, 127)...)
	if got := sha512.Pad(nil); !bytes.Equal(got, none) {
		t.Errorf("Pad(nil) = %x, want %x", got, none)
	}
	if got := sha512.Pad([]byte{}); !bytes.Equal(got, none) {
		t.Errorf("Pad of no bytes = %x, want %x", got, none)
	}
	got := sha512.Pad(make([]byte, 0x12345))
	if end := got[len(got)-16:]; !bytes.Equal(end, []byte{0, 0, 0, 0, 0, 0, 0, 0, 0, 0, 0, 0, 0, 0x09, 0x1a, 0x28}) {
		t.Errorf("Pad of 12345 (of base 16) bytes ends with %x", end)
	}
}

// P14.2, R2: what is handed in is not written into, nor its spare room; the answer shares none with it.
func TestPadMemory(t *testing.T) {
	for _, n := range []int{0, 3, 111, 112, 127, 128} {
		room := some(n+400, 5)
		before := slices.Clone(room)
		got := sha512.Pad(room[:n])
		for i := range got {
			got[i] ^= 0xff
		}
		if !bytes.Equal(room, before) {
			t.Errorf("Pad of %d bytes wrote into what it was handed, or shares it", n)
		}
	}
}

// P14.3: 128 bytes behind a state, for some states and blocks, as the library reckons them.
func TestBlock(t *testing.T) {
	r := rand.New(rand.NewSource(14))
	for range 500 {
		state, block := anyState(r), make([]byte, 128)
		r.Read(block)
		got, err := sha512.Block(state, block)
		if want := libraryBlock(t, state, block); err != api.OK || got != want {
			t.Fatalf("Block(%016x, %x) = %016x, %d, want %016x", state, block, got, err, want)
		}
	}
}

// P14.3: states and blocks of noughts, of ones and of one bit: sums that go beyond 64 bits, and each bit's way.
func TestBlockEdges(t *testing.T) {
	states := [][8]uint64{{}, sha512.Start()}
	full := [8]uint64{}
	for i := range full {
		full[i] = math.MaxUint64
		one := [8]uint64{}
		one[i] = 1
		states = append(states, one)
		one[i] = 1 << 63
		states = append(states, one)
	}
	states = append(states, full)
	blocks := [][]byte{make([]byte, 128), bytes.Repeat([]byte{0xff}, 128)}
	for bit := range 1024 {
		b := make([]byte, 128)
		b[bit/8] = 1 << (bit % 8)
		blocks = append(blocks, b)
	}
	ask := func(state [8]uint64, block []byte) {
		got, err := sha512.Block(state, block)
		if want := libraryBlock(t, state, block); err != api.OK || got != want {
			t.Errorf("Block(%016x, %x) = %016x, %d, want %016x", state, block, got, err, want)
		}
	}
	for i, block := range blocks {
		ask(states[i%len(states)], block)
	}
	for _, state := range states {
		for _, block := range blocks[:2] {
			ask(state, block)
		}
	}
}

// P14.3: ErrArg, and noughts, for blocks of another length.
func TestBlockLength(t *testing.T) {
	for _, n := range []int{0, 1, 8, 63, 64, 65, 112, 120, 126, 127, 129, 136, 255, 256, 384, 4096} {
		if got, err := sha512.Block(sha512.Start(), some(n, 1)); err != api.ErrArg || got != [8]uint64{} {
			t.Errorf("Block of %d bytes = %016x, %d, want noughts, %d", n, got, err, api.ErrArg)
		}
	}
	if got, err := sha512.Block(sha512.Start(), nil); err != api.ErrArg || got != [8]uint64{} {
		t.Errorf("Block of nil = %016x, %d, want noughts, %d", got, err, api.ErrArg)
	}
	if got, err := sha512.Block(sha512.Start(), make([]byte, 127, 128)); err != api.ErrArg || got != [8]uint64{} {
		t.Errorf("Block of 127 bytes with room for one more = %016x, %d, want noughts, %d", got, err, api.ErrArg)
	}
}

// P14.3, R2: the block is not written into, nor what lies about it; the state that was handed in stays.
func TestBlockMemory(t *testing.T) {
	room := some(384, 7)
	before := slices.Clone(room)
	state := sha512.Start()
	a, _ := sha512.Block(state, room[128:256])
	b, _ := sha512.Block(state, room[128:256])
	if !bytes.Equal(room, before) || state != sha512.Start() || a != b {
		t.Errorf("Block changed what it was handed, or answered %016x, then %016x", a, b)
	}
}

// P14.4: the chapter's example, and those of FIPS 180-4.
func TestSumKnown(t *testing.T) {
	for _, k := range known {
		if got := spaced(sha512.Sum([]byte(k.text))); got != k.sum {
			t.Errorf("Sum(%q) = %s, want %s", k.text, got, k.sum)
		}
	}
	million := bytes.Repeat([]byte{'a'}, 1000000)
	if got := spaced(sha512.Sum(million)); got != "e718483d 0ce76964 4e2e42c7 bc15b463 8e1f98b1 3b204428 5632a803 afa973eb de0ff244 877ea60a 4cb0432c e577c31b eb009c5c 2c49aa2e 4eadb217 ad8cc09b" {
		t.Errorf("Sum of a million a = %s", got)
	}
}

// P14.4: Start, what Block makes of each 128 bytes of Pad, eight bytes a word; and what the library says.
func TestSum(t *testing.T) {
	for _, n := range lengths() {
		data := some(n, n)
		got := sha512.Sum(data)
		if want := std.Sum512(data); got != want {
			t.Errorf("Sum of %d bytes = %x, want %x", n, got, want)
		}
		if n > 1100 {
			continue
		}
		state := sha512.Start()
		for block := range slices.Chunk(sha512.Pad(data), 128) {
			state, _ = sha512.Block(state, block)
		}
		var want []byte
		for _, x := range state {
			want = binary.BigEndian.AppendUint64(want, x)
		}
		if !bytes.Equal(got[:], want) {
			t.Errorf("Sum of %d bytes = %x, by its blocks %x", n, got, want)
		}
	}
}

// P14.4: no part, no list of parts, and parts without bytes are nothing.
func TestSumOfNothing(t *testing.T) {
	for i, parts := range [][][]byte{nil, {}, {nil}, {{}}, {nil, nil}, {{}, nil, {}}, make([][]byte, 300)} {
		if got := spaced(sha512.Sum(parts...)); got != known[0].sum {
			t.Errorf("Sum of list %d, of %d parts without bytes = %s", i, len(parts), got)
		}
	}
	if got := spaced(sha512.Sum()); got != known[0].sum {
		t.Errorf("Sum() = %s", got)
	}
}

// P14.4, P14.5: parts without bytes, nil or not, change nothing wherever they stand.
func TestSumEmptyParts(t *testing.T) {
	a, bc := []byte("a"), []byte("bc")
	for i, parts := range [][][]byte{{a, bc}, {nil, a, bc}, {a, nil, bc}, {a, bc, nil}, {{}, a, {}, {}, bc, {}}, {nil, {}, a, bc, {}, nil}} {
		if got := spaced(sha512.Sum(parts...)); got != known[1].sum {
			t.Errorf("Sum of list %d = %s, want that of abc", i, got)
		}
	}
	block := some(128, 2)
	if sha512.Sum(block, nil, []byte{}) != std.Sum512(block) || sha512.Sum(nil, block) != std.Sum512(block) {
		t.Error("parts without bytes change the sum of a whole block")
	}
}

// P14.4: parts come in their order; one that comes twice counts twice.
func TestSumOrder(t *testing.T) {
	a, b := some(100, 1), some(60, 2)
	if sha512.Sum(a, b) != std.Sum512(slices.Concat(a, b)) || sha512.Sum(b, a) != std.Sum512(slices.Concat(b, a)) {
		t.Error("Sum of two parts is not that of them one behind the other")
	}
	if sha512.Sum(a, b) == sha512.Sum(b, a) {
		t.Error("Sum of two parts does not hang on their order")
	}
	if sha512.Sum(a, a, a) != std.Sum512(slices.Concat(a, a, a)) {
		t.Error("Sum of one part three times is not that of its bytes three times")
	}
}

// P14.4, R2: neither the list of parts nor what lies in them is written into, nor their spare room; a sum knows nothing of an earlier one.
func TestSumMemory(t *testing.T) {
	for _, n := range []int{0, 3, 64, 111, 112, 127, 128, 129, 256} {
		room := some(2*n+400, 9)
		before := slices.Clone(room)
		spare := some(5, 1)
		list := [][]byte{room[:n], room[n : 2*n], spare}
		first := sha512.Sum(list[:2]...)
		again := sha512.Sum(list[:2]...)
		if !bytes.Equal(room, before) || !bytes.Equal(spare, some(5, 1)) {
			t.Errorf("Sum of two parts of %d bytes wrote into what it was handed", n)
		}
		if len(list[0]) != n || len(list[1]) != n || &list[2][0] != &spare[0] {
			t.Errorf("Sum of two parts of %d bytes wrote into the list of parts", n)
		}
		if want := std.Sum512(before[:2*n]); first != want || again != want {
			t.Errorf("Sum of two parts of %d bytes = %x, then %x, want %x", n, first, again, want)
		}
	}
}

// P14.5: two parts, cut at each place, at lengths around a multiple of 128 and around where the padding takes one block more.
func TestPartsTwo(t *testing.T) {
	for _, n := range []int{1, 111, 112, 127, 128, 129, 240, 300} {
		data := some(n, 3)
		want := std.Sum512(data)
		for cut := range n + 1 {
			if got := sha512.Sum(data[:cut], data[cut:]); got != want {
				t.Errorf("Sum of %d and %d bytes = %x, want %x", cut, n-cut, got, want)
			}
		}
	}
}

// P14.5: parts of one length each, from one byte to more than two blocks.
func TestPartsEven(t *testing.T) {
	data := some(1000, 4)
	want := std.Sum512(data)
	for n := 1; n <= 270; n++ {
		if got := sha512.Sum(slices.Collect(slices.Chunk(data, n))...); got != want {
			t.Errorf("Sum by parts of %d bytes = %x, want %x", n, got, want)
		}
	}
}

// P14.5: parts of any length, empty ones among them.
func TestPartsAny(t *testing.T) {
	r := rand.New(rand.NewSource(145))
	for range 500 {
		var parts [][]byte
		for range r.Intn(20) {
			part := make([]byte, r.Intn(1+r.Intn(500)))
			r.Read(part)
			parts = append(parts, part)
		}
		all := slices.Concat(parts...)
		if got := sha512.Sum(parts...); got != sha512.Sum(all) || got != std.Sum512(all) {
			t.Fatalf("Sum of %d parts, of %d bytes, is not that of them all", len(parts), len(all))
		}
	}
}
