package bch_test

import (
	"bytes"
	"math"
	"math/rand"
	"slices"
	"testing"

	"casemate/api"
	"casemate/bch"
	"casemate/bpoly"
	"casemate/gf"
)

// Numbers of flips that no code has: next to those that have one, and at the ends of the numbers.
var outside = []int{0, -1, -2, -8, 9, 10, 16, 257, 1 << 32, 1<<32 + 1, math.MinInt, math.MinInt + 1, math.MaxInt, math.MaxInt - 1, math.MinInt32, math.MaxInt32}

// Lengths of data: the least, the greatest, and some between.
var lengths = []int{1, 2, 3, 7, 16, 33, 128, 511, 512}

// fill is what the spare room of bytes holds in these tests.
const fill = 0xb7

// roomy gives the same bytes in a larger array, and that array, so that a test sees whether the spare room was written into, or read.
func roomy(p []byte) (front []byte, whole []byte) {
	whole = bytes.Repeat([]byte{fill}, len(p)+8)
	copy(whole, p)
	return whole[:len(p)], whole
}

// untouched: does the array still hold the bytes, and the fill behind them?
func untouched(whole []byte, p []byte) bool {
	return bytes.Equal(whole[:len(p)], p) && bytes.Equal(whole[len(p):], bytes.Repeat([]byte{fill}, 8))
}

// scribble writes into all of what came out, its spare room too.
func scribble(lists ...[]byte) {
	for _, p := range lists {
		p = p[:cap(p)]
		for i := range p {
			p[i] ^= 0xff
		}
	}
}

// some makes n bytes.
func some(source *rand.Rand, n int) []byte {
	p := make([]byte, n)
	source.Read(p)
	return p
}

// size is how many more bytes there are.
func size(flips int) int { return (13*flips + 7) / 8 }

// encode, sums and decode are the calls where no error may come.
func encode(t *testing.T, flips int, data []byte) []byte {
	t.Helper()
	more, err := bch.Encode(flips, data)
	if err != api.OK || len(more) != size(flips) {
		t.Fatalf("Encode(%d, % x) = % x, %d", flips, data, more, err)
	}
	return more
}

func sums(t *testing.T, flips int, data, more []byte) []int {
	t.Helper()
	out, err := bch.Sums(flips, data, more)
	if err != api.OK || len(out) != 2*flips {
		t.Fatalf("Sums(%d, % x, % x) = %v, %d", flips, data, more, out, err)
	}
	return out
}

// places lists the powers of the word that have the coefficient 1, rising, by the chapter's words.
func places(flips int, data, more []byte) []int {
	var out []int
	for i := range 13 * flips {
		if more[i/8]>>(i%8)&1 == 1 {
			out = append(out, i)
		}
	}
	for i := range 8 * len(data) {
		if data[i/8]>>(i%8)&1 == 1 {
			out = append(out, 13*flips+i)
		}
	}
	return out
}

// wordOf gives the bytes of a polynomial with these powers.
func wordOf(list []int) []byte {
	out := make([]byte, slices.Max(append([]int{0}, list...))/8+1)
	for _, n := range list {
		out[n/8] ^= 1 << (n % 8)
	}
	return out
}

// isCode: does layer 4's generator divide the word?
func isCode(t *testing.T, flips int, data, more []byte) bool {
	t.Helper()
	generator, err := bpoly.Generator(flips)
	if err != api.OK {
		t.Fatalf("Generator(%d): %d", flips, err)
	}
	rest, err := bpoly.Mod(wordOf(places(flips, data, more)), generator)
	if err != api.OK {
		t.Fatalf("Mod by Generator(%d): %d", flips, err)
	}
	return len(rest) == 0
}

// flipped gives copies in which the word's bits at these places are turned.
func flipped(flips int, data, more []byte, list ...int) ([]byte, []byte) {
	data, more = slices.Clone(data), slices.Clone(more)
	for _, n := range list {
		if n < 13*flips {
			more[n/8] ^= 1 << (n % 8)
		} else {
			n -= 13 * flips
			data[n/8] ^= 1 << (n % 8)
		}
	}
	return data, more
}

// told fails if Decode does not tell just this code word.
func told(t *testing.T, flips int, data, more, wantData, wantMore []byte, want int) {
	t.Helper()
	a, b, n, err := bch.Decode(flips, data, more)
	if !bytes.Equal(a, wantData) || !bytes.Equal(b, wantMore) || n != want || err != api.OK {
		t.Fatalf("Decode(%d, % x, % x) = % x, % x, %d, %d; want % x, % x, %d", flips, data, more, a, b, n, err, wantData, wantMore, want)
	}
}

// refused fails if Decode does not answer this error, and nothing beside it.
func refused(t *testing.T, flips int, data, more []byte, want api.Errno) {
	t.Helper()
	a, b, n, err := bch.Decode(flips, data, more)
	if len(a) != 0 || len(b) != 0 || n != 0 || err != want {
		t.Fatalf("Decode(%d, % x, % x) = % x, % x, %d, %d; want the error %d alone", flips, data, more, a, b, n, err, want)
	}
}

// P5.1: so many bits, and the chapter's examples.
func TestBits(t *testing.T) {
	for flips := 1; flips <= 8; flips++ {
		if n, err := bch.Bits(flips); n != 13*flips || err != api.OK {
			t.Errorf("Bits(%d) = %d, %d", flips, n, err)
		}
	}
	if n, err := bch.Bits(8); n != 104 || err != api.OK {
		t.Errorf("Bits(8) = %d, %d", n, err)
	}
}

// P5.1: no other number of flips has a code, whatever is beside it.
func TestNoSuchFlips(t *testing.T) {
	for _, flips := range outside {
		if n, err := bch.Bits(flips); n != 0 || err != api.ErrArg {
			t.Errorf("Bits(%d) = %d, %d; want ErrArg", flips, n, err)
		}
		for _, data := range [][]byte{nil, {}, {1}, make([]byte, 512), make([]byte, 513)} {
			if more, err := bch.Encode(flips, data); len(more) != 0 || err != api.ErrArg {
				t.Errorf("Encode(%d, %d bytes) = % x, %d; want ErrArg", flips, len(data), more, err)
			}
			for _, n := range []int{0, 1, 2, 13, 14, 15} {
				more := make([]byte, n)
				if out, err := bch.Sums(flips, data, more); len(out) != 0 || err != api.ErrArg {
					t.Errorf("Sums(%d, %d bytes, %d bytes) = %v, %d; want ErrArg", flips, len(data), n, out, err)
				}
				refused(t, flips, data, more, api.ErrArg)
			}
		}
	}
}

// P5.1: data of no other lengths than 1 to 512 bytes.
func TestNoSuchData(t *testing.T) {
	for flips := 1; flips <= 8; flips++ {
		for _, data := range [][]byte{nil, {}, make([]byte, 0, 16), make([]byte, 513), make([]byte, 514), make([]byte, 1024), make([]byte, api.MaxData)} {
			more := make([]byte, size(flips))
			if out, err := bch.Encode(flips, data); len(out) != 0 || err != api.ErrArg {
				t.Errorf("Encode(%d, %d bytes) = % x, %d; want ErrArg", flips, len(data), out, err)
			}
			if out, err := bch.Sums(flips, data, more); len(out) != 0 || err != api.ErrArg {
				t.Errorf("Sums(%d, %d bytes) = %v, %d; want ErrArg", flips, len(data), out, err)
			}
			refused(t, flips, data, more, api.ErrArg)
		}
	}
}

// P5.1: more bytes of just one length.
func TestNoSuchMore(t *testing.T) {
	for flips := 1; flips <= 8; flips++ {
		for n := range 20 {
			for _, data := range [][]byte{make([]byte, 1), make([]byte, 512)} {
				more := make([]byte, n, 32)
				if n == size(flips) {
					told(t, flips, data, more, data, more, 0)
					sums(t, flips, data, more)
					continue
				}
				if out, err := bch.Sums(flips, data, more); len(out) != 0 || err != api.ErrArg {
					t.Errorf("Sums(%d, .., %d bytes) = %v, %d; want ErrArg", flips, n, out, err)
				}
				refused(t, flips, data, more, api.ErrArg)
			}
		}
		refused(t, flips, []byte{1}, nil, api.ErrArg)
		refused(t, flips, []byte{1}, make([]byte, api.MaxData), api.ErrArg)
	}
}

// P5.1: the chapter's examples.
func TestEncode(t *testing.T) {
	for _, x := range []struct {
		flips      int
		data, more []byte
	}{
		{1, []byte{0}, []byte{0, 0}},
		{1, []byte{1}, []byte{0x1b, 0}},
		// w's powers 14 and 20 are 2 and 128 times 27.
		{1, []byte{2}, []byte{0x36, 0}},
		{1, []byte{0x80}, []byte{0x80, 0x0d}},
		{1, []byte{3}, []byte{0x2d, 0}},
		{8, make([]byte, 512), make([]byte, 13)},
	} {
		if got := encode(t, x.flips, x.data); !bytes.Equal(got, x.more) {
			t.Errorf("Encode(%d, % x) = % x; want % x", x.flips, x.data, got, x.more)
		}
	}
}

// P5.1: the one bit of data's first place has the generator without its greatest power, of each number of flips.
func TestEncodeTheGenerator(t *testing.T) {
	for flips := 1; flips <= 8; flips++ {
		generator, _ := bpoly.Generator(flips)
		want := make([]byte, 14)
		copy(want, generator)
		want[13*flips/8] ^= 1 << (13 * flips % 8)
		if got := encode(t, flips, []byte{1}); !bytes.Equal(got, want[:size(flips)]) {
			t.Errorf("Encode(%d, 01) = % x; want % x", flips, got, want[:size(flips)])
		}
	}
}

// P5.1: a code word, with nothing above its bits, of data of all lengths; each one bit of data too.
func TestEncodeMakesCodeWords(t *testing.T) {
	source := rand.New(rand.NewSource(511))
	for flips := 1; flips <= 8; flips++ {
		var all [][]byte
		for _, n := range lengths {
			all = append(all, some(source, n), make([]byte, n), bytes.Repeat([]byte{0xff}, n), append(make([]byte, n-1), 0x80))
		}
		for i := range 32 {
			one := make([]byte, 4)
			one[i/8] = 1 << (i % 8)
			all = append(all, one)
		}
		for _, data := range all {
			more := encode(t, flips, data)
			if !isCode(t, flips, data, more) {
				t.Fatalf("Encode(%d, % x) = % x: no code word", flips, data, more)
			}
			if above := 8*size(flips) - 13*flips; int(more[len(more)-1])>>(8-above) != 0 {
				t.Fatalf("Encode(%d, % x) = % x: there is something above the bits", flips, data, more)
			}
		}
	}
}

// P5.2: the values are the sums of w's powers, as layer 2 tells them; what is above the more bits is not looked at.
func TestSums(t *testing.T) {
	source := rand.New(rand.NewSource(521))
	for flips := 1; flips <= 8; flips++ {
		for _, n := range lengths {
			data, more := some(source, n), some(source, size(flips))
			want := make([]int, 2*flips)
			for i := range want {
				for _, place := range places(flips, data, more) {
					want[i] ^= gf.Exp((i + 1) * place)
				}
			}
			if got := sums(t, flips, data, more); !slices.Equal(got, want) {
				t.Fatalf("Sums(%d, % x, % x) = %v; want %v", flips, data, more, got, want)
			}
		}
	}
}

// P5.2: one bit alone has w's powers of its place, at each place.
func TestSumsOfEachBit(t *testing.T) {
	for flips := 1; flips <= 8; flips++ {
		data, more := make([]byte, 3), make([]byte, size(flips))
		for place := range 13*flips + 8*len(data) {
			want := make([]int, 2*flips)
			for i := range want {
				want[i] = gf.Exp((i + 1) * place)
			}
			a, b := flipped(flips, data, more, place)
			if got := sums(t, flips, a, b); !slices.Equal(got, want) {
				t.Fatalf("Sums(%d) of the bit %d = %v; want %v", flips, place, got, want)
			}
		}
	}
}

// P5.2, P5.3: all bits above the more bits, one by one and together: the sums are the same, and Decode tells them as 0, with and without flips beside them.
func TestBitsAbove(t *testing.T) {
	source := rand.New(rand.NewSource(522))
	for flips := 1; flips <= 8; flips++ {
		data := some(source, 9)
		more := encode(t, flips, data)
		used := 13*flips - 8*(len(more)-1)
		for above := range 1 << (8 - used) {
			for count := range flips + 1 {
				a, b := flipped(flips, data, more, source.Perm(13*flips + 72)[:count]...)
				want := sums(t, flips, a, b)
				b[len(b)-1] |= byte(above << used)
				if got := sums(t, flips, a, b); !slices.Equal(got, want) {
					t.Fatalf("Sums(%d, % x, % x) = %v; want %v", flips, a, b, got, want)
				}
				told(t, flips, a, b, data, more, count)
			}
		}
	}
}

// P5.4: all sums are 0 just if the word is a code word: of code words, of words near them, and of any words.
func TestSumsOfCodeWords(t *testing.T) {
	source := rand.New(rand.NewSource(541))
	for flips := 1; flips <= 8; flips++ {
		for round := range 100 {
			data := some(source, 1+round%20)
			more := encode(t, flips, data)
			bitsOfAll := 13*flips + 8*len(data)
			for _, count := range []int{0, 1, 2, 3, 2 * flips} {
				a, b := flipped(flips, data, more, source.Perm(bitsOfAll)[:count]...)
				allNought := slices.Max(sums(t, flips, a, b)) == 0
				if allNought != isCode(t, flips, a, b) || allNought != (count == 0) {
					t.Fatalf("Sums(%d, % x, % x), of %d flips: all 0 is %v", flips, a, b, count, allNought)
				}
			}
			a, b := some(source, 1+round%20), some(source, size(flips))
			if allNought := slices.Max(sums(t, flips, a, b)) == 0; allNought != isCode(t, flips, a, b) {
				t.Fatalf("Sums(%d, % x, % x): all 0 is %v", flips, a, b, allNought)
			}
		}
	}
}

// P5.4: the sum of two code words is one, and the one that Encode makes.
func TestSumOfCodeWords(t *testing.T) {
	source := rand.New(rand.NewSource(542))
	xor := func(p, q []byte) []byte {
		out := slices.Clone(p)
		for i := range q {
			out[i] ^= q[i]
		}
		return out
	}
	for flips := 1; flips <= 8; flips++ {
		for _, n := range lengths {
			p, q := some(source, n), some(source, n)
			data, more := xor(p, q), xor(encode(t, flips, p), encode(t, flips, q))
			if got := encode(t, flips, data); !bytes.Equal(got, more) {
				t.Fatalf("Encode(%d, % x) = % x; want % x", flips, data, got, more)
			}
			told(t, flips, data, more, data, more, 0)
		}
	}
}

// P5.3: the chapter's examples.
func TestDecode(t *testing.T) {
	data, more := []byte{1}, []byte{0x1b, 0}
	told(t, 1, []byte{1}, []byte{0x1b, 0x00}, data, more, 0)
	told(t, 1, []byte{3}, []byte{0x1b, 0x00}, data, more, 1)
	told(t, 1, []byte{1}, []byte{0x1b, 0x10}, data, more, 1)
	told(t, 1, []byte{1}, []byte{0x1b, 0xe0}, data, more, 0)
}

// P5.3, P5.4: each one bit is put right, of each number of flips.
func TestDecodeEachBit(t *testing.T) {
	source := rand.New(rand.NewSource(531))
	for flips := 1; flips <= 8; flips++ {
		for _, n := range []int{1, 2, 16} {
			data := some(source, n)
			more := encode(t, flips, data)
			for place := range 13*flips + 8*n {
				a, b := flipped(flips, data, more, place)
				told(t, flips, a, b, data, more, 1)
			}
		}
	}
}

// P5.3, P5.4: each two bits of a short word are put right.
func TestDecodeEachTwoBits(t *testing.T) {
	source := rand.New(rand.NewSource(532))
	for flips := 2; flips <= 4; flips++ {
		data := some(source, 2)
		more := encode(t, flips, data)
		n := 13*flips + 16
		for second := range n {
			for first := range second {
				a, b := flipped(flips, data, more, first, second)
				told(t, flips, a, b, data, more, 2)
			}
		}
	}
}

// P5.3, P5.4: any flips up to the number, of data of all lengths; those of one end or the other among them.
func TestDecodeUpToAll(t *testing.T) {
	source := rand.New(rand.NewSource(533))
	for flips := 1; flips <= 8; flips++ {
		for _, n := range lengths {
			data := some(source, n)
			more := encode(t, flips, data)
			last := 13*flips + 8*n - 1
			for count := range flips + 1 {
				list := source.Perm(last + 1)[:count]
				a, b := flipped(flips, data, more, list...)
				told(t, flips, a, b, data, more, count)
			}
			var front, back, middle []int
			for i := range flips {
				front, back, middle = append(front, i), append(back, last-i), append(middle, 13*flips-flips/2+i)
			}
			for _, list := range [][]int{front, back, middle} {
				a, b := flipped(flips, data, more, list...)
				told(t, flips, a, b, data, more, flips)
			}
		}
	}
}

// nearest is Decode by the words of the chapter: all code words of one byte of data are held against the word.
func nearest(all map[int][]int, word []int, flips int) (value int, apart int, ok bool) {
	for v, code := range all {
		n := 0
		for i := range code {
			if code[i] != word[i] {
				n++
			}
		}
		if n <= flips {
			return v, n, true
		}
	}
	return 0, 0, false
}

// rowOfBits is a word as noughts and ones.
func rowOfBits(flips int, data, more []byte) []int {
	out := make([]int, 13*flips+8*len(data))
	for _, place := range places(flips, data, more) {
		out[place] = 1
	}
	return out
}

// against holds Decode against nearest.
func against(t *testing.T, all map[int][]int, flips int, data, more []byte) (near bool) {
	t.Helper()
	value, apart, near := nearest(all, rowOfBits(flips, data, more), flips)
	if !near {
		refused(t, flips, data, more, api.ErrFlips)
		return false
	}
	want := []byte{byte(value)}
	told(t, flips, data, more, want, encode(t, flips, want), apart)
	return true
}

// P5.3: with any number of flips: the code word that is near, be it that which was flipped or another one; ErrFlips, if none is.
func TestDecodeByTrials(t *testing.T) {
	source := rand.New(rand.NewSource(534))
	for flips := 1; flips <= 8; flips++ {
		all := map[int][]int{}
		for v := range 256 {
			data := []byte{byte(v)}
			all[v] = rowOfBits(flips, data, encode(t, flips, data))
		}
		n := 13*flips + 8
		for count := range n + 1 {
			for range 8 {
				data := some(source, 1)
				a, b := flipped(flips, data, encode(t, flips, data), source.Perm(n)[:count]...)
				near := against(t, all, flips, a, b)
				if count <= flips && !near {
					t.Fatalf("%d flips of %d: no code word is near", count, flips)
				}
			}
		}
		for range 300 {
			against(t, all, flips, some(source, 1), some(source, size(flips)))
		}
	}
}

// P5.3, P5.4: on the way from one code word to another: the one near its beginning, the other near its end; the two are too far apart for both.
func TestDecodeOnTheWay(t *testing.T) {
	source := rand.New(rand.NewSource(535))
	for flips := 1; flips <= 8; flips++ {
		for range 20 {
			from, to := some(source, 2), some(source, 2)
			p, q := encode(t, flips, from), encode(t, flips, to)
			var way []int
			x, y := rowOfBits(flips, from, p), rowOfBits(flips, to, q)
			for i := range x {
				if x[i] != y[i] {
					way = append(way, i)
				}
			}
			if len(way) == 0 {
				continue
			}
			if len(way) <= 2*flips {
				t.Fatalf("two code words of %d flips differ in %d bits", flips, len(way))
			}
			source.Shuffle(len(way), func(i, j int) { way[i], way[j] = way[j], way[i] })
			for count := range len(way) + 1 {
				a, b := flipped(flips, from, p, way[:count]...)
				switch left := len(way) - count; {
				case count <= flips:
					told(t, flips, a, b, from, p, count)
				case left <= flips:
					told(t, flips, a, b, to, q, left)
				}
			}
		}
	}
}

// P5.3: each word of one byte of data that differs in one to three bits from a code word, with one flip.
func TestDecodeOneFlipByTrials(t *testing.T) {
	all := map[int][]int{}
	for v := range 256 {
		data := []byte{byte(v)}
		all[v] = rowOfBits(1, data, encode(t, 1, data))
	}
	data := []byte{0xa5}
	more := encode(t, 1, data)
	for i := range 21 {
		for j := range i + 1 {
			for k := range j + 1 {
				a, b := flipped(1, data, more, i, j, k)
				against(t, all, 1, a, b)
			}
		}
	}
}

// apartBy gives a word of noughts of n bytes of data, to which flips at these places were done, be they in the word or behind its end: what is behind it is brought in by the rest that the generator leaves of it.
func apartBy(t *testing.T, flips int, n int, list ...int) ([]byte, []byte) {
	t.Helper()
	data, more := make([]byte, n), make([]byte, size(flips))
	generator, _ := bpoly.Generator(flips)
	for _, place := range list {
		if place < 13*flips+8*n {
			data, more = flipped(flips, data, more, place)
			continue
		}
		rest, err := bpoly.Mod(wordOf([]int{place}), generator)
		if err != api.OK {
			t.Fatalf("Mod of the power %d: %d", place, err)
		}
		for i, c := range rest {
			more[i] ^= c
		}
	}
	return data, more
}

// P5.3: a word whose sums are those of one flip behind its end is not near any code word: all places up to the field's order.
func TestDecodeBehindTheEnd(t *testing.T) {
	for _, n := range []int{1, 2} {
		for place := 13 + 8*n; place < api.Order; place++ {
			a, b := apartBy(t, 1, n, place)
			if s := sums(t, 1, a, b); s[0] != gf.Exp(place) {
				t.Fatalf("the place %d has the sums %v", place, s)
			}
			refused(t, 1, a, b, api.ErrFlips)
		}
	}
}

// P5.3: likewise, with as many flips as may be, one or all of which are behind the end; the first place behind it and the last one of all among them.
func TestDecodePartlyBehindTheEnd(t *testing.T) {
	source := rand.New(rand.NewSource(536))
	for flips := 1; flips <= 8; flips++ {
		for _, n := range []int{1, 64, 512} {
			end := 13*flips + 8*n
			for _, behind := range []int{end, end + 1, api.Order - 1, end + source.Intn(api.Order-end)} {
				list := append(source.Perm(end)[:flips-1], behind)
				a, b := apartBy(t, flips, n, list...)
				refused(t, flips, a, b, api.ErrFlips)
			}
			var list []int
			for i := range flips {
				list = append(list, end+i)
			}
			a, b := apartBy(t, flips, n, list...)
			refused(t, flips, a, b, api.ErrFlips)
		}
	}
}

// P5.3: one flip too many, of words of all lengths: never what it was, and if something is told, it is a code word within reach; some are refused.
func TestDecodeTooMany(t *testing.T) {
	source := rand.New(rand.NewSource(537))
	for flips := 1; flips <= 8; flips++ {
		refusals := 0
		for _, n := range lengths {
			data := some(source, n)
			more := encode(t, flips, data)
			for extra := 1; extra <= flips; extra++ {
				a, b := flipped(flips, data, more, source.Perm(13*flips + 8*n)[:flips+extra]...)
				p, q, count, err := bch.Decode(flips, a, b)
				if err == api.ErrFlips {
					refused(t, flips, a, b, api.ErrFlips)
					refusals++
					continue
				}
				if err != api.OK || bytes.Equal(p, data) && bytes.Equal(q, more) || !isCode(t, flips, p, q) {
					t.Fatalf("Decode(%d) of %d flips: % x, % x, %d, %d", flips, flips+extra, p, q, count, err)
				}
				x, y := rowOfBits(flips, a, b), rowOfBits(flips, p, q)
				for i := range x {
					count -= x[i] ^ y[i]
				}
				if count != 0 {
					t.Fatalf("Decode(%d) of %d flips tells %d flips too many", flips, flips+extra, count)
				}
			}
		}
		if refusals == 0 {
			t.Errorf("Decode(%d) of too many flips was never refused", flips)
		}
	}
}

// pairs maps the sums of each two places below n, or one, or none, to how many ways lead there, for four flips.
func pairs(n int) map[[8]int]int {
	of := func(list ...int) (out [8]int) {
		for _, place := range list {
			for i := range out {
				out[i] ^= gf.Exp(place * (i + 1))
			}
		}
		return out
	}
	out := map[[8]int]int{of(): 1}
	for i := range n {
		out[of(i)]++
		for j := range i {
			out[of(i, j)]++
		}
	}
	return out
}

// within: is there a code word in four bits or fewer? They are two and two of these pairs.
func within(all map[[8]int]int, sums []int) bool {
	for one := range all {
		for i := range one {
			one[i] ^= sums[i]
		}
		if all[one] > 0 {
			return true
		}
	}
	return false
}

// P5.3: five flips of which a polynomial of the degree 5 is just as good a locator for the eight sums as one of four flips would be, so that turning them makes a code word: they are one too many all the same. (As w's powers of the places their symmetric sums are: the third 0, the fifth the product of the first and the fourth; which stays so when all places are shifted.)
func TestDecodeFiveThatFit(t *testing.T) {
	source := rand.New(rand.NewSource(540))
	all := pairs(52 + 8*24)
	for _, list := range [][]int{{0, 86, 182, 226, 233}, {0, 9, 86, 185, 237}} {
		for list[4] < 52+8*24 {
			data := some(source, 24)
			more := encode(t, 4, data)
			a, b := flipped(4, data, more, list...)
			if list[0] == 3 && within(all, sums(t, 4, a, b)) {
				t.Fatalf("the places %v: a code word is near", list)
			}
			refused(t, 4, a, b, api.ErrFlips)
			for left := range list {
				a, b := flipped(4, data, more, slices.Concat(list[:left], list[left+1:])...)
				told(t, 4, a, b, data, more, 4)
			}
			for i := range list {
				list[i]++
			}
		}
	}
}

// R2: what is handed in stays as it is, its spare room too, and is not read beyond its end; what comes out is new memory, of each list for itself.
func TestMemory(t *testing.T) {
	source := rand.New(rand.NewSource(538))
	for flips := 1; flips <= 8; flips++ {
		for count := range flips + 2 {
			data := some(source, 12)
			more := encode(t, flips, data)
			a, b := flipped(flips, data, more, source.Perm(13*flips + 96)[:count]...)
			front, whole := roomy(a)
			other, room := roomy(b)
			wantCode := encode(t, flips, a)
			wantSums := sums(t, flips, a, b)
			wantData, wantMore, wantCount, wantErr := bch.Decode(flips, a, b)
			wantData, wantMore = slices.Clone(wantData), slices.Clone(wantMore)
			for round := range 2 {
				code := encode(t, flips, front)
				row := sums(t, flips, front, other)
				p, q, n, err := bch.Decode(flips, front, other)
				if !bytes.Equal(code, wantCode) || !slices.Equal(row, wantSums) {
					t.Fatalf("%d flips of %d, round %d: % x, %v", count, flips, round, code, row)
				}
				if !bytes.Equal(p, wantData) || !bytes.Equal(q, wantMore) || n != wantCount || err != wantErr {
					t.Fatalf("%d flips of %d, round %d: % x, % x, %d, %d", count, flips, round, p, q, n, err)
				}
				scribble(code, p)
				if !bytes.Equal(q, wantMore) {
					t.Fatalf("%d flips of %d: the two lists of an answer share memory", count, flips)
				}
				scribble(q)
				row = row[:cap(row)]
				for i := range row {
					row[i] = -1
				}
				if !untouched(whole, a) || !untouched(room, b) {
					t.Fatalf("%d flips of %d: an argument or its spare room was written into, or came out", count, flips)
				}
			}
		}
	}
}

// R2: data and more bytes may lie in one list, side by side or one over the other.
func TestMemoryOfTheSame(t *testing.T) {
	source := rand.New(rand.NewSource(539))
	for flips := 1; flips <= 8; flips++ {
		data := some(source, 20)
		more := encode(t, flips, data)
		raw := slices.Concat(data, more)
		raw[3] ^= 0x10
		before := slices.Clone(raw)
		told(t, flips, raw[:20], raw[20:], data, more, 1)
		both := make([]byte, size(flips))
		told(t, flips, both, both, both, both, 0)
		if !bytes.Equal(raw, before) || slices.Max(both) != 0 {
			t.Errorf("%d flips: an argument was written into", flips)
		}
	}
}
