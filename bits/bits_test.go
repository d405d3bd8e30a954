package bits_test

import (
	"bytes"
	"math"
	"math/rand"
	"slices"
	"testing"

	"casemate/api"
	"casemate/bits"
)

// Places that are no bits of any bytes in these tests, at the ends of the numbers and near them.
var never = []int{-1, -7, -8, -9, math.MinInt, math.MinInt + 1, math.MaxInt, math.MaxInt - 7, math.MaxInt/8 + 1, math.MinInt32, math.MaxInt32}

// roomy gives a list of the same elements in a larger array, and that array, so that a test sees whether the spare room was written into.
func roomy[T any](list []T, fill T) (front []T, whole []T) {
	whole = make([]T, len(list)+8)
	for i := range whole {
		whole[i] = fill
	}
	copy(whole, list)
	return whole[:len(list)], whole
}

// row makes n bytes, the same ones for the same seed.
func row(seed int64, n int) []byte {
	b := make([]byte, n)
	rand.New(rand.NewSource(seed)).Read(b)
	return b
}

// P1.1: the chapter's examples, and edges.
func TestAt(t *testing.T) {
	for _, x := range []struct {
		b    []byte
		i    int
		want int
		err  api.Errno
	}{
		{[]byte{0x05}, 0, 1, api.OK},
		{[]byte{0x05}, 1, 0, api.OK},
		{[]byte{0x05}, 2, 1, api.OK},
		{[]byte{0x05}, 7, 0, api.OK},
		{[]byte{0x80}, 7, 1, api.OK},
		{[]byte{0x05, 0x80}, 15, 1, api.OK},
		{[]byte{0x05, 0x80}, 8, 0, api.OK},
		{[]byte{0x05, 0x80}, 7, 0, api.OK},
		{[]byte{0x00, 0x01}, 8, 1, api.OK},
		{[]byte{0x05}, 8, 0, api.ErrArg},
		{[]byte{0xff}, 8, 0, api.ErrArg},
		{[]byte{0xff, 0xff}, 16, 0, api.ErrArg},
		{[]byte{0xff}, -1, 0, api.ErrArg},
		{nil, 0, 0, api.ErrArg},
		{[]byte{}, 0, 0, api.ErrArg},
		{nil, -1, 0, api.ErrArg},
	} {
		if got, err := bits.At(x.b, x.i); got != x.want || err != x.err {
			t.Errorf("At(%x, %d) = %d, %d; want %d, %d", x.b, x.i, got, err, x.want, x.err)
		}
	}
}

// P1.1: every bit of a byte of each value, in a byte that is not the first, by weights that are added up.
func TestAtWeights(t *testing.T) {
	for v := range 256 {
		b := []byte{0xff, 0x00, byte(v), 0xff}
		sum, weight := 0, 1
		for k := range 8 {
			bit, err := bits.At(b, 16+k)
			if err != api.OK || bit != 0 && bit != 1 {
				t.Fatalf("At(%x, %d) = %d, %d", b, 16+k, bit, err)
			}
			sum += bit * weight
			weight *= 2
		}
		if sum != v {
			t.Errorf("the bits of %02x add up to %02x", v, sum)
		}
	}
}

// P1.1, R1: a place that is none's, however far off, and spare room that is no bit's.
func TestAtNoBit(t *testing.T) {
	front, whole := roomy([]byte{0xff, 0xff}, 0xff)
	for _, b := range [][]byte{nil, {}, {0xff}, front} {
		for _, i := range append([]int{8 * len(b), 8*len(b) + 1, 8*len(b) + 7, 8*len(b) + 8}, never...) {
			if got, err := bits.At(b, i); got != 0 || err != api.ErrArg {
				t.Errorf("At(%x, %d) = %d, %d; want 0, ErrArg", b, i, got, err)
			}
		}
	}
	if bits.Ones(whole) != 80 {
		t.Errorf("At wrote into what it was given: %x", whole)
	}
}

// P1.1: how many are 1.
func TestOnes(t *testing.T) {
	for _, x := range []struct {
		b    []byte
		want int
	}{
		{[]byte{0xff, 0x01}, 9},
		{nil, 0},
		{[]byte{}, 0},
		{[]byte{0x00, 0x00}, 0},
		{[]byte{0x80}, 1},
		{[]byte{0x01, 0x80, 0x10}, 3},
		{bytes.Repeat([]byte{0xff}, 100), 800},
	} {
		if got := bits.Ones(x.b); got != x.want {
			t.Errorf("Ones(%x) = %d; want %d", x.b, got, x.want)
		}
	}
}

// P1.1: At and Ones tell of the same bits; the spare room is not counted; nothing is written.
func TestOnesIsAllThatAtTells(t *testing.T) {
	for n := range 40 {
		was := row(int64(n), n)
		b, whole := roomy(was, 0xff)
		sum := 0
		for i := range 8 * n {
			bit, err := bits.At(b, i)
			if err != api.OK {
				t.Fatalf("At(%x, %d): %d", b, i, err)
			}
			sum += bit
		}
		if got := bits.Ones(b); got != sum {
			t.Errorf("Ones(%x) = %d; At tells of %d", b, got, sum)
		}
		if !bytes.Equal(b, was) || bits.Ones(whole[n:]) != 64 {
			t.Errorf("what was handed in was changed: %x to %x", was, whole)
		}
	}
}

// P1.2: the chapter's example, and edges.
func TestTurn(t *testing.T) {
	for _, x := range []struct {
		b      []byte
		places []int
		want   []byte
	}{
		{[]byte{0, 0}, []int{0, 9, 0, 0}, []byte{0x01, 0x02}},
		{[]byte{0, 0}, []int{9, 9}, []byte{0, 0}},
		{[]byte{0, 0}, []int{9, 0, 9}, []byte{0x01, 0}},
		{[]byte{0xff}, []int{0, 7}, []byte{0x7e}},
		{[]byte{0x00, 0x00}, []int{15}, []byte{0x00, 0x80}},
		{[]byte{0x00, 0x00}, []int{8}, []byte{0x00, 0x01}},
		{[]byte{0x00}, []int{7, 6, 5, 4, 3, 2, 1, 0}, []byte{0xff}},
		{[]byte{0x12, 0x34}, nil, []byte{0x12, 0x34}},
		{[]byte{0x12, 0x34}, []int{}, []byte{0x12, 0x34}},
		{nil, nil, nil},
		{[]byte{}, []int{}, nil},
	} {
		if got, err := bits.Turn(x.b, x.places); !bytes.Equal(got, x.want) || err != api.OK {
			t.Errorf("Turn(%x, %v) = %x, %d; want %x", x.b, x.places, got, err, x.want)
		}
	}
}

// P1.2: each bit alone, told by At: that one is turned, and no other.
func TestTurnOneBit(t *testing.T) {
	b := []byte{0x00, 0xff, 0xa5, 0x3c}
	for p := range 8 * len(b) {
		got, err := bits.Turn(b, []int{p})
		if err != api.OK || len(got) != len(b) {
			t.Fatalf("Turn(%x, %d) = %x, %d", b, p, got, err)
		}
		for i := range 8 * len(b) {
			was, _ := bits.At(b, i)
			is, _ := bits.At(got, i)
			if (was != is) != (i == p) {
				t.Errorf("Turn(%x, %d) = %x: the bit %d", b, p, got, i)
			}
		}
	}
}

// P1.2, R1, R2: a place that is no bit's, wherever in the list it stands: ErrArg, no bytes, nothing changed.
func TestTurnNoBit(t *testing.T) {
	for _, was := range [][]byte{nil, {}, {0xa5}, {0xa5, 0x00, 0xff}} {
		n := 8 * len(was)
		for _, p := range append([]int{n, n + 1, n + 7, n + 8}, never...) {
			lists := [][]int{{p}, {p, p}}
			if n > 0 {
				lists = append(lists, []int{p, 0}, []int{0, p}, []int{0, n - 1, p, 1}, []int{0, 0, n - 1, p})
			}
			for _, list := range lists {
				b, whole := roomy(was, 0xff)
				places, all := roomy(list, 0)
				got, err := bits.Turn(b, places)
				if len(got) != 0 || err != api.ErrArg {
					t.Errorf("Turn(%x, %v) = %x, %d; want nothing, ErrArg", was, list, got, err)
				}
				if !bytes.Equal(b, was) || bits.Ones(whole[len(was):]) != 64 {
					t.Errorf("Turn(%x, %v) changed the bytes: %x", was, list, whole)
				}
				if !slices.Equal(places, list) || !slices.Equal(all[len(list):], make([]int, 8)) {
					t.Errorf("Turn(%x, %v) changed the places: %v", was, list, all)
				}
			}
		}
	}
}

// P1.2, R2: what comes out is new memory, also if nothing is turned; what was handed in stays as it was.
func TestTurnIsACopy(t *testing.T) {
	was, list := []byte{0x12, 0x34, 0x56}, []int{23, 0, 5}
	for _, n := range []int{0, 1, 3} {
		b, whole := roomy(was, 0xff)
		places, all := roomy(list[:n], 77)
		first, _ := bits.Turn(b, places)
		second, _ := bits.Turn(b, places)
		keep := slices.Clone(second)
		for i := range first {
			first[i] ^= 0xff
		}
		_ = append(first, 0, 0, 0, 0)
		if !bytes.Equal(b, was) || bits.Ones(whole[len(was):]) != 64 {
			t.Errorf("the bytes were changed: %x", whole)
		}
		if !slices.Equal(places, list[:n]) || slices.ContainsFunc(all[n:], func(p int) bool { return p != 77 }) {
			t.Errorf("the places were changed: %v", all)
		}
		if !bytes.Equal(second, keep) {
			t.Errorf("two answers share memory: %x, %x", second, keep)
		}
		if again, _ := bits.Turn(b, places); !bytes.Equal(again, keep) {
			t.Errorf("the same call answered %x, then %x", keep, again)
		}
	}
}

// P1.3: the chapter's example, and edges.
func TestApart(t *testing.T) {
	for _, x := range []struct {
		a, b []byte
		want []int
		err  api.Errno
	}{
		{[]byte{0xff}, []byte{0xfc}, []int{0, 1}, api.OK},
		{[]byte{0xfc}, []byte{0xff}, []int{0, 1}, api.OK},
		{[]byte{0x00, 0x00}, []byte{0x81, 0x81}, []int{0, 7, 8, 15}, api.OK},
		{[]byte{0x0f}, []byte{0xf0}, []int{0, 1, 2, 3, 4, 5, 6, 7}, api.OK},
		{[]byte{0x00, 0x00, 0x01}, []byte{0x00, 0x00, 0x00}, []int{16}, api.OK},
		{[]byte{0x12, 0x34}, []byte{0x12, 0x34}, nil, api.OK},
		{nil, nil, nil, api.OK},
		{nil, []byte{}, nil, api.OK},
		{[]byte{}, nil, nil, api.OK},
		{[]byte{0x00}, nil, nil, api.ErrArg},
		{nil, []byte{0x00}, nil, api.ErrArg},
		{[]byte{0x00}, []byte{0x00, 0x00}, nil, api.ErrArg},
		{[]byte{0xff, 0x00}, []byte{0x00}, nil, api.ErrArg},
		{[]byte{0x12, 0x34}, []byte{0x12, 0x34, 0x56}, nil, api.ErrArg},
	} {
		if got, err := bits.Apart(x.a, x.b); !slices.Equal(got, x.want) || err != x.err {
			t.Errorf("Apart(%x, %x) = %v, %d; want %v, %d", x.a, x.b, got, err, x.want, x.err)
		}
	}
}

// P1.3: just the bits of which At tells otherwise, rising; in either order the same.
func TestApartIsWhatAtTells(t *testing.T) {
	for n := range 40 {
		a, b := row(int64(n), n), row(int64(n)+1000, n)
		var want []int
		for i := range 8 * n {
			x, _ := bits.At(a, i)
			y, _ := bits.At(b, i)
			if x != y {
				want = append(want, i)
			}
		}
		if got, err := bits.Apart(a, b); !slices.Equal(got, want) || err != api.OK {
			t.Errorf("Apart(%x, %x) = %v, %d; want %v", a, b, got, err, want)
		}
		if got, err := bits.Apart(b, a); !slices.Equal(got, want) || err != api.OK {
			t.Errorf("Apart(%x, %x) = %v, %d; want %v", b, a, got, err, want)
		}
	}
}

// P1.3, R1, R2: nothing that was handed in is changed, also where the lengths are unlike or the two share memory; answers are new memory.
func TestApartChangesNothing(t *testing.T) {
	x, y := []byte{0x12, 0x34, 0x56}, []byte{0x21, 0x43, 0x65}
	for _, n := range []int{0, 2, 3} {
		a, wholeA := roomy(x, 0xff)
		b, wholeB := roomy(y[:n], 0xff)
		first, _ := bits.Apart(a, b)
		second, _ := bits.Apart(a, b)
		keep := slices.Clone(second)
		for i := range first {
			first[i] = -1
		}
		_ = append(first, -1, -1)
		if !bytes.Equal(a, x) || !bytes.Equal(b, y[:n]) || bits.Ones(wholeA[3:]) != 64 || bits.Ones(wholeB[n:]) != 64 {
			t.Errorf("what was handed in was changed: %x, %x", wholeA, wholeB)
		}
		if !slices.Equal(second, keep) {
			t.Errorf("two answers share memory: %v, %v", second, keep)
		}
	}
	both := []byte{0x01, 0x03, 0x07}
	if got, err := bits.Apart(both[:2], both[1:]); !slices.Equal(got, []int{1, 10}) || err != api.OK {
		t.Errorf("Apart of two that share memory: %v, %d", got, err)
	}
	if !bytes.Equal(both, []byte{0x01, 0x03, 0x07}) {
		t.Errorf("what was handed in was changed: %x", both)
	}
}

// odd tells, by counting, which places stand in the list an odd number of times, rising.
func odd(places []int) []int {
	times := map[int]int{}
	for _, p := range places {
		times[p]++
	}
	var out []int
	for p, n := range times {
		if n%2 == 1 {
			out = append(out, p)
		}
	}
	slices.Sort(out)
	return out
}

// P1.4: what is turned twice is as it was; bytes are apart just by what was turned an odd number of times.
func TestTurnedTwice(t *testing.T) {
	source := rand.New(rand.NewSource(14))
	for round := range 400 {
		b := row(int64(round), 1+round%17)
		places := make([]int, source.Intn(60))
		for i := range places {
			places[i] = source.Intn(8 * len(b))
		}
		once, err := bits.Turn(b, places)
		if err != api.OK {
			t.Fatalf("Turn(%x, %v): %d", b, places, err)
		}
		if got, err := bits.Apart(b, once); !slices.Equal(got, odd(places)) || err != api.OK {
			t.Errorf("Turn(%x, %v) = %x: apart by %v, %d; want %v", b, places, once, got, err, odd(places))
		}
		if twice, err := bits.Turn(once, places); !bytes.Equal(twice, b) || err != api.OK {
			t.Errorf("Turn(Turn(%x, %v)) = %x, %d", b, places, twice, err)
		}
		if twice, err := bits.Turn(b, append(slices.Clone(places), places...)); !bytes.Equal(twice, b) || err != api.OK {
			t.Errorf("Turn(%x) by %v and again by them = %x, %d", b, places, twice, err)
		}
	}
}

// P1.4: turning the bits by which two are apart makes the one of the other; Ones counts them.
func TestTurnUndoesApart(t *testing.T) {
	for n := range 40 {
		a, b := row(int64(n)+2000, n), row(int64(n)+3000, n)
		places, err := bits.Apart(a, b)
		if err != api.OK {
			t.Fatalf("Apart(%x, %x): %d", a, b, err)
		}
		if got, err := bits.Turn(a, places); !bytes.Equal(got, b) || err != api.OK {
			t.Errorf("Turn(%x, Apart) = %x, %d; want %x", a, got, err, b)
		}
		if got, err := bits.Turn(make([]byte, n), places); bits.Ones(got) != len(places) || err != api.OK {
			t.Errorf("Turn(noughts, %v) = %x, %d", places, got, err)
		}
	}
}
