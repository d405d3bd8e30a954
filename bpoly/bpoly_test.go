package bpoly_test

import (
	"bytes"
	"math"
	"math/rand"
	"slices"
	"testing"

	"casemate/api"
	"casemate/bpoly"
	"casemate/gf"
)

// Numbers that are no elements: next to the elements, and at the ends of the numbers.
var outside = []int{-1, -2, -8191, -8192, 8192, 8193, 16384, 1 << 32, 1<<32 + 1, math.MinInt, math.MinInt + 1, math.MaxInt, math.MaxInt - 1, math.MinInt32, math.MaxInt32}

// fill is what the spare room of bytes holds in these tests.
const fill = 0xb7

// roomy gives the same bytes in a larger array, and that array, so that a test sees whether the spare room was written into, or read.
func roomy(p []byte) (front []byte, whole []byte) {
	whole = bytes.Repeat([]byte{fill}, len(p)+8)
	copy(whole, p)
	return whole[:len(p)], whole
}

// untouched: does the array still hold the bytes, and the fill behind them?
func untouched(whole []byte, p []byte) bool {
	return bytes.Equal(whole[:len(p)], p) && bytes.Equal(whole[len(p):], bytes.Repeat([]byte{fill}, 8))
}

// some makes n bytes; of ten some three are 00, at the end too.
func some(source *rand.Rand, n int) []byte {
	p := make([]byte, n)
	for i := range p {
		if source.Intn(10) > 2 {
			p[i] = byte(source.Intn(256))
		}
	}
	return p
}

// cut takes the 00 off the end.
func cut(p []byte) []byte {
	for len(p) > 0 && p[len(p)-1] == 0 {
		p = p[:len(p)-1]
	}
	return p
}

// powers lists those that have the coefficient 1, rising.
func powers(p []byte) []int {
	var out []int
	for i, c := range p {
		for k := range 8 {
			if c>>k&1 == 1 {
				out = append(out, 8*i+k)
			}
		}
	}
	return out
}

// of gives the normal bytes of the sum of powers; one that stands there twice falls out.
func of(list ...int) []byte {
	var out []byte
	for _, n := range list {
		for len(out) <= n/8 {
			out = append(out, 0)
		}
		out[n/8] ^= 1 << (n % 8)
	}
	return cut(out)
}

// long is the product at length: each power of the one with each of the other.
func long(p, q []byte) []byte {
	var out []int
	for _, a := range powers(p) {
		for _, b := range powers(q) {
			out = append(out, a+b)
		}
	}
	return of(out...)
}

// normal fails if there is 00 at the end.
func normal(t *testing.T, p []byte) {
	t.Helper()
	if len(p) > 0 && p[len(p)-1] == 0 {
		t.Fatalf("bytes that are not normal: % x", p)
	}
}

// add, mul, mod, value and generator are the calls where no error may come.
func add(t *testing.T, p, q []byte) []byte {
	t.Helper()
	out := bpoly.Add(p, q)
	normal(t, out)
	return out
}

func mul(t *testing.T, p, q []byte) []byte {
	t.Helper()
	out := bpoly.Mul(p, q)
	normal(t, out)
	return out
}

func mod(t *testing.T, p, q []byte) []byte {
	t.Helper()
	out, err := bpoly.Mod(p, q)
	if err != api.OK {
		t.Fatalf("Mod(% x, % x): %d", p, q, err)
	}
	normal(t, out)
	return out
}

func value(t *testing.T, p []byte, x int) int {
	t.Helper()
	v, err := bpoly.Value(p, x)
	if err != api.OK || v < 0 || v >= api.Field {
		t.Fatalf("Value(% x, %d) = %d, %d", p, x, v, err)
	}
	return v
}

func generator(t *testing.T, flips int) []byte {
	t.Helper()
	out, err := bpoly.Generator(flips)
	if err != api.OK {
		t.Fatalf("Generator(%d): %d", flips, err)
	}
	normal(t, out)
	return out
}

// P4.1: the chapter's examples, and edges.
func TestDegree(t *testing.T) {
	for _, x := range []struct {
		p    []byte
		want int
	}{
		{[]byte{0}, -1},
		{[]byte{1}, 0},
		{[]byte{0, 1}, 8},
		{nil, -1},
		{[]byte{}, -1},
		{[]byte{0, 0, 0}, -1},
		{[]byte{0x80}, 7},
		{[]byte{0xff}, 7},
		{[]byte{0x80, 0}, 7},
		{[]byte{0x01, 0, 0, 0}, 0},
		{[]byte{0xff, 0x7f}, 14},
		{[]byte{0x1b, 0x20}, 13},
		{make([]byte, api.MaxData), -1},
	} {
		if got := bpoly.Degree(x.p); got != x.want {
			t.Errorf("Degree(% x) = %d; want %d", x.p, got, x.want)
		}
	}
}

// P4.1: the greatest power counts, whatever is below it and however many 00 are behind it.
func TestDegreeOfEachPower(t *testing.T) {
	source := rand.New(rand.NewSource(411))
	for n := range 200 {
		below := some(source, n/8)
		for noughts := range 4 {
			p := append(add(t, below, of(n)), make([]byte, noughts)...)
			if got := bpoly.Degree(p); got != n {
				t.Fatalf("Degree(% x) = %d; want %d", p, got, n)
			}
		}
	}
}

// P4.1: edges of the sum.
func TestAdd(t *testing.T) {
	for _, x := range []struct{ p, q, want []byte }{
		{nil, nil, nil},
		{[]byte{}, []byte{0, 0}, nil},
		{[]byte{1, 2, 3}, nil, []byte{1, 2, 3}},
		{nil, []byte{1, 2, 3}, []byte{1, 2, 3}},
		{[]byte{1, 2, 3, 0}, nil, []byte{1, 2, 3}},
		{[]byte{1, 2, 3}, []byte{1, 2, 3}, nil},
		{[]byte{1, 2, 3}, []byte{1, 2, 3, 0, 0}, nil},
		{[]byte{1, 2, 3}, []byte{0, 2, 3}, []byte{1}},
		{[]byte{3}, []byte{5, 0, 7}, []byte{6, 0, 7}},
		{[]byte{0xff, 0xff}, []byte{0x01, 0x80, 0xff}, []byte{0xfe, 0x7f, 0xff}},
	} {
		if got := bpoly.Add(x.p, x.q); !bytes.Equal(got, x.want) {
			t.Errorf("Add(% x, % x) = % x; want % x", x.p, x.q, got, x.want)
		}
	}
}

// P4.1: the chapter's example, and edges.
func TestMul(t *testing.T) {
	for _, x := range []struct{ p, q, want []byte }{
		{[]byte{3}, []byte{3}, []byte{5}},
		{nil, nil, nil},
		{nil, []byte{1, 2}, nil},
		{[]byte{1, 2}, nil, nil},
		{[]byte{0, 0}, []byte{1, 2}, nil},
		{[]byte{1, 2}, []byte{0}, nil},
		{[]byte{0}, []byte{0, 0, 0}, nil},
		{[]byte{1}, []byte{5, 6, 7}, []byte{5, 6, 7}},
		{[]byte{5, 6, 7, 0}, []byte{1, 0}, []byte{5, 6, 7}},
		{[]byte{2}, []byte{0x80}, []byte{0, 1}},
		{[]byte{0, 1}, []byte{5, 6, 7}, []byte{0, 5, 6, 7}},
		{[]byte{0x80, 0}, []byte{0x80}, []byte{0, 0x40}},
		{[]byte{0xff}, []byte{0xff}, []byte{0x55, 0x55}},
		{[]byte{0xff, 0xff}, []byte{3}, []byte{1, 0, 1}},
		{[]byte{0x1b, 0x20}, []byte{3}, []byte{0x2d, 0x60}},
	} {
		if got := bpoly.Mul(x.p, x.q); !bytes.Equal(got, x.want) {
			t.Errorf("Mul(% x, % x) = % x; want % x", x.p, x.q, got, x.want)
		}
	}
}

// P4.1: sums and products at length, of bytes of all lengths side by side.
func TestAddAndMulAtLength(t *testing.T) {
	source := rand.New(rand.NewSource(412))
	for m := range 14 {
		for n := range 14 {
			p, q := some(source, m), some(source, n)
			if got, want := add(t, p, q), of(slices.Concat(powers(p), powers(q))...); !bytes.Equal(got, want) {
				t.Fatalf("Add(% x, % x) = % x; want % x", p, q, got, want)
			}
			if got, want := mul(t, p, q), long(p, q); !bytes.Equal(got, want) {
				t.Fatalf("Mul(% x, % x) = % x; want % x", p, q, got, want)
			}
		}
	}
}

// P4.1: each power by each, so that each place in a byte meets each other one.
func TestMulOfPowers(t *testing.T) {
	for m := range 40 {
		for n := range 40 {
			if got := mul(t, of(m), of(n)); !bytes.Equal(got, of(m+n)) {
				t.Fatalf("Mul of the powers %d and %d = % x", m, n, got)
			}
		}
	}
}

// P4.1, R1: long bytes, and 00 at the end that no step is lost on.
func TestMulLong(t *testing.T) {
	source := rand.New(rand.NewSource(413))
	p, q := append(some(source, 200), 0x80), append(some(source, 100), 0x80)
	if got := mul(t, p, q); len(got) != 302 || !bytes.Equal(got, long(p, q)) {
		t.Errorf("a product of 201 and 101 bytes has %d, or other ones", len(got))
	}
	noughts := make([]byte, api.MaxData)
	got := mul(t, append(slices.Clone(q), noughts...), append([]byte{0, 1}, noughts...))
	if !bytes.Equal(got, append([]byte{0}, q...)) {
		t.Errorf("a product of 101 and 2 bytes, with 00 behind them, has %d, or other ones", len(got))
	}
}

// P4.1: the chapter's examples, and edges.
func TestMod(t *testing.T) {
	for _, x := range []struct {
		p, q, want []byte
		err        api.Errno
	}{
		{[]byte{5}, []byte{3}, nil, api.OK},
		{[]byte{1}, []byte{0}, nil, api.ErrZero},
		{nil, nil, nil, api.ErrZero},
		{[]byte{1}, nil, nil, api.ErrZero},
		{nil, []byte{0, 0}, nil, api.ErrZero},
		{[]byte{1, 2, 3}, []byte{0, 0, 0, 0}, nil, api.ErrZero},
		{nil, []byte{1}, nil, api.OK},
		{[]byte{0, 0}, []byte{5, 6}, nil, api.OK},
		{[]byte{0xff, 0xff, 0xff}, []byte{1}, nil, api.OK},
		{[]byte{0xff, 0xff, 0xff}, []byte{1, 0, 0}, nil, api.OK},
		{[]byte{5, 0}, []byte{3, 0, 0, 0}, nil, api.OK},
		{[]byte{4}, []byte{3}, []byte{1}, api.OK},
		{[]byte{5, 6, 7}, []byte{2}, []byte{1}, api.OK},
		{[]byte{5, 6, 7}, []byte{0, 1}, []byte{5}, api.OK},
		{[]byte{5, 6, 7}, []byte{0, 0, 1}, []byte{5, 6}, api.OK},
		{[]byte{5, 6, 7}, []byte{0, 0, 0, 1}, []byte{5, 6, 7}, api.OK},
		{[]byte{5, 6, 0, 0, 0}, []byte{0, 0, 1}, []byte{5, 6}, api.OK},
		{[]byte{5, 6, 7}, []byte{5, 6, 7}, nil, api.OK},
		{[]byte{5, 6, 7}, []byte{0, 0, 4}, []byte{5, 6, 3}, api.OK},
		{[]byte{0, 0x20}, []byte{0x1b, 0x20}, []byte{0x1b}, api.OK},
		{[]byte{0, 0x40}, []byte{0x1b, 0x20, 0}, []byte{0x36}, api.OK},
	} {
		if got, err := bpoly.Mod(x.p, x.q); !bytes.Equal(got, x.want) || err != x.err {
			t.Errorf("Mod(% x, % x) = % x, %d; want % x, %d", x.p, x.q, got, err, x.want, x.err)
		}
	}
}

// P4.1: what was made of a product of q and a rest of a lower degree has just that rest, whatever is behind both.
func TestModOfWhatWasMade(t *testing.T) {
	source := rand.New(rand.NewSource(414))
	for range 3000 {
		degree := source.Intn(100)
		below := func(n int) []byte { return mod(t, some(source, 14), of(n)) }
		q := add(t, of(degree), below(degree))
		rest := below(degree)
		whole := add(t, long(q, some(source, source.Intn(12))), rest)
		noughts := make([]byte, source.Intn(4))
		if got := mod(t, append(whole, noughts...), append(q, noughts...)); !bytes.Equal(got, rest) {
			t.Fatalf("Mod(% x, % x) = % x; want % x", whole, q, got, rest)
		}
	}
}

// P4.1: by a power the rest is what stands below it.
func TestModOfPowers(t *testing.T) {
	source := rand.New(rand.NewSource(415))
	for n := range 130 {
		p := some(source, 16)
		var below []int
		for _, a := range powers(p) {
			if a < n {
				below = append(below, a)
			}
		}
		if got := mod(t, p, of(n)); !bytes.Equal(got, of(below...)) {
			t.Fatalf("Mod(% x, the power %d) = % x", p, n, got)
		}
	}
}

// P4.2: edges: the nought's power 0 is 1, and at 1 the ones are counted out.
func TestValue(t *testing.T) {
	for _, x := range []struct {
		p       []byte
		x, want int
	}{
		{nil, 0, 0},
		{nil, 8191, 0},
		{[]byte{0, 0, 0}, 7, 0},
		{[]byte{1}, 0, 1},
		{[]byte{1, 0}, 8191, 1},
		{[]byte{0xfe, 0xff}, 0, 0},
		{[]byte{0xff}, 1, 0},
		{[]byte{0xff, 0x20}, 1, 1},
		{[]byte{2}, 8191, 8191},
		{[]byte{5}, 2, 5},
		{[]byte{0xff}, 2, 255},
		{[]byte{0, 0x10}, 2, 4096},
		{[]byte{0, 0x20}, 2, 27},
		{[]byte{0x1b, 0x20}, 2, 0},
		{[]byte{0x1b, 0x20, 0, 0}, 4, 0},
		{[]byte{3}, 1, 0},
	} {
		if got, err := bpoly.Value(x.p, x.x); got != x.want || err != api.OK {
			t.Errorf("Value(% x, %d) = %d, %d; want %d", x.p, x.x, got, err, x.want)
		}
	}
}

// P4.2: the sum of the powers that layer 2 tells.
func TestValueBySums(t *testing.T) {
	source := rand.New(rand.NewSource(421))
	for round := range 500 {
		p := some(source, round%20)
		for _, x := range []int{0, 1, 2, 8191, source.Intn(api.Field)} {
			want := 0
			for _, n := range powers(p) {
				power, err := gf.Pow(x, n)
				if err != api.OK {
					t.Fatalf("gf.Pow(%d, %d): %d", x, n, err)
				}
				want ^= power
			}
			if got := value(t, p, x); got != want {
				t.Fatalf("Value(% x, %d) = %d; want %d", p, x, got, want)
			}
		}
	}
}

// P4.2, R1: what is no element, beside the polynomial 0 too.
func TestValueOutside(t *testing.T) {
	for _, x := range outside {
		for _, p := range [][]byte{nil, {}, {0}, {1}, {2}, {0x1b, 0x20}, {0xff, 0, 0}} {
			if got, err := bpoly.Value(p, x); got != 0 || err != api.ErrArg {
				t.Errorf("Value(% x, %d) = %d, %d; want ErrArg", p, x, got, err)
			}
		}
	}
}

// P4.3: the chapter's examples, and the ends of the numbers.
func TestMinimal(t *testing.T) {
	for _, x := range []struct {
		n    int
		want []byte
	}{
		{1, []byte{0x1b, 0x20}},
		{0, []byte{3}},
		{2, []byte{0x1b, 0x20}},
		{4096, []byte{0x1b, 0x20}},
		{8192, []byte{0x1b, 0x20}},
		{-8190, []byte{0x1b, 0x20}},
		// The reciprocal of that of w, as w's power -1 is its inverse.
		{-1, []byte{0x01, 0x36}},
		{8190, []byte{0x01, 0x36}},
		{8191, []byte{3}},
		{-8191, []byte{3}},
		{16382, []byte{3}},
		{8191 * 1000003, []byte{3}},
		{math.MinInt, least(t, math.MinInt)},
		{math.MinInt + 1, least(t, math.MinInt+1)},
		{math.MaxInt, least(t, math.MaxInt)},
		{math.MaxInt - 1, least(t, math.MaxInt-1)},
		{1 << 62, least(t, 1<<62)},
	} {
		if got := bpoly.Minimal(x.n); !bytes.Equal(got, x.want) {
			t.Errorf("Minimal(%d) = % x; want % x", x.n, got, x.want)
		}
	}
}

// least is Minimal(n) by the words of the chapter: all polynomials of a degree above 0 are tried, rising, till the value at w's power n is 0.
func least(t *testing.T, n int) []byte {
	t.Helper()
	a, top := gf.Exp(n), 1
	values := []int{0}
	for degree := 0; ; degree++ {
		for below := range len(values) {
			v := values[below] ^ top
			if v == 0 && degree > 0 {
				whole := 1<<degree | below
				return cut([]byte{byte(whole), byte(whole >> 8)})
			}
			values = append(values, v)
		}
		next, err := gf.Mul(top, a)
		if err != api.OK || degree > 13 {
			t.Fatalf("no polynomial up to the degree %d is 0 at w's power %d", degree, n)
		}
		top = next
	}
}

// P4.3: of each power of w.
func TestMinimalByTrials(t *testing.T) {
	for n := range api.Order {
		if got, want := bpoly.Minimal(n), least(t, n); !bytes.Equal(got, want) {
			t.Fatalf("Minimal(%d) = % x; want % x", n, got, want)
		}
	}
}

// P4.4: the degree, the value, and that twice the power, and whole rounds more or less, have the same one.
func TestMinimalRounds(t *testing.T) {
	for n := -200; n < api.Order; n += 3 {
		p := bpoly.Minimal(n)
		degree := 13
		if n%api.Order == 0 {
			degree = 1
		}
		if got := bpoly.Degree(p); got != degree || value(t, p, gf.Exp(n)) != 0 {
			t.Fatalf("Minimal(%d) = % x: the degree %d", n, p, got)
		}
		for _, same := range []int{2 * n, 4 * n, 4096 * n, 8192 * n, n + api.Order, n - api.Order, n - 5*api.Order} {
			if got := bpoly.Minimal(same); !bytes.Equal(got, p) {
				t.Fatalf("Minimal(%d) = % x; want % x, as of %d", same, got, p, n)
			}
		}
	}
}

// P4.3: the product of so many, and the chapter's example.
func TestGenerator(t *testing.T) {
	want := []byte{1}
	for flips := 1; flips <= api.MaxFlips; flips++ {
		want = long(want, least(t, 2*flips-1))
		if got := generator(t, flips); !bytes.Equal(got, want) {
			t.Errorf("Generator(%d) = % x; want % x", flips, got, want)
		}
	}
	if got := bpoly.Degree(generator(t, 8)); got != 104 {
		t.Errorf("Degree(Generator(8)) = %d; want 104", got)
	}
}

// P4.3: only 1 to 8 flips have one.
func TestGeneratorOutside(t *testing.T) {
	for _, flips := range append(slices.Clone(outside), 0, 9, 10, 16, 257) {
		if got, err := bpoly.Generator(flips); len(got) != 0 || err != api.ErrArg {
			t.Errorf("Generator(%d) = % x, %d; want ErrArg", flips, got, err)
		}
	}
}

// P4.4: the degree, the powers at which the value is 0, which are those and their conjugates' alone; and as w's order is 8191, the polynomial of that power and 1 is a product of it.
func TestGeneratorValues(t *testing.T) {
	for flips := 1; flips <= api.MaxFlips; flips++ {
		g := generator(t, flips)
		if got := bpoly.Degree(g); got != 13*flips {
			t.Errorf("Generator(%d) has the degree %d", flips, got)
		}
		for n := 1; n <= 2*flips; n++ {
			if v := value(t, g, gf.Exp(n)); v != 0 {
				t.Errorf("Generator(%d) at w's power %d: %d", flips, n, v)
			}
		}
		zeros := 0
		for n := range api.Order {
			if value(t, g, gf.Exp(n)) == 0 {
				zeros++
			}
		}
		if zeros != 13*flips {
			t.Errorf("Generator(%d) is 0 at %d powers", flips, zeros)
		}
		if rest := mod(t, of(0, api.Order), g); len(rest) != 0 {
			t.Errorf("the power 8191 and 1, by Generator(%d): the rest % x", flips, rest)
		}
	}
}

// P4.1, P4.2: sums and products are those of the values; a rest by a minimal polynomial has the value of the whole.
func TestValuesOfSumsAndProducts(t *testing.T) {
	source := rand.New(rand.NewSource(441))
	for range 300 {
		p, q, n := some(source, source.Intn(20)), some(source, source.Intn(20)), source.Intn(api.Order)
		x := gf.Exp(n)
		a, b := value(t, p, x), value(t, q, x)
		product, _ := gf.Mul(a, b)
		if value(t, add(t, p, q), x) != a^b || value(t, mul(t, p, q), x) != product {
			t.Fatalf("% x and % x at %d", p, q, x)
		}
		if value(t, mod(t, p, bpoly.Minimal(n)), x) != a {
			t.Fatalf("the rest of % x by Minimal(%d) has another value", p, n)
		}
	}
}

// answers makes all calls with p and q and gives the bytes that come out.
func answers(p, q []byte) [][]byte {
	rest, _ := bpoly.Mod(p, q)
	return [][]byte{bpoly.Add(p, q), bpoly.Mul(p, q), rest}
}

// R2: what is handed in stays as it is, its spare room too, and is not read beyond its end; what comes out is new memory.
func TestMemory(t *testing.T) {
	source := rand.New(rand.NewSource(442))
	lists := [][]byte{nil, {}, {0}, {1}, {0x80}, {1, 0, 0}, {0x1b, 0x20}, some(source, 9), append(some(source, 30), 1)}
	for _, p := range lists {
		for _, q := range lists {
			front, whole := roomy(p)
			other, room := roomy(q)
			want := answers(p, q)
			for round := range 2 {
				got := answers(front, other)
				for i := range got {
					if !bytes.Equal(got[i], want[i]) {
						t.Fatalf("the call %d of % x, % x: % x in round %d; want % x", i, p, q, got[i], round, want[i])
					}
				}
				scribble(got)
				if bpoly.Degree(front) != bpoly.Degree(p) || value(t, front, 3) != value(t, p, 3) {
					t.Fatalf("% x: Degree or Value hangs on the spare room", p)
				}
				if !untouched(whole, p) || !untouched(room, q) {
					t.Fatalf("% x, % x: an argument or its spare room was written into, or came out", p, q)
				}
			}
		}
	}
}

// scribble writes into all of what came out, its spare room too.
func scribble(lists [][]byte) {
	for _, p := range lists {
		p = p[:cap(p)]
		for i := range p {
			p[i] ^= 0xff
		}
	}
}

// R2: a factor of 1, a sum with nothing and a rest that is the whole are new memory, too; and both arguments may be one.
func TestMemoryOfTheSame(t *testing.T) {
	p := []byte{5, 6, 7}
	rest, _ := bpoly.Mod(p, []byte{0, 0, 0, 1})
	scribble([][]byte{bpoly.Add(p, nil), bpoly.Add(nil, p), bpoly.Mul(p, []byte{1}), bpoly.Mul([]byte{1}, p), rest})
	if !bytes.Equal(p, []byte{5, 6, 7}) {
		t.Errorf("an answer shares memory with an argument: % x", p)
	}
	if got := answers(p, p); len(got[0]) != 0 || !bytes.Equal(got[1], long(p, p)) || len(got[2]) != 0 {
		t.Errorf("both arguments the same: % x", got)
	}
}

// R2: what was written into an earlier answer is not seen in a later one.
func TestAnswersAreNew(t *testing.T) {
	for n := range 20 {
		want := slices.Clone(bpoly.Minimal(n))
		scribble([][]byte{bpoly.Minimal(n)})
		if got := bpoly.Minimal(n); !bytes.Equal(got, want) {
			t.Errorf("Minimal(%d) = % x; want % x", n, got, want)
		}
	}
	for flips := 1; flips <= api.MaxFlips; flips++ {
		want := slices.Clone(generator(t, flips))
		scribble([][]byte{generator(t, flips)})
		if got := generator(t, flips); !bytes.Equal(got, want) {
			t.Errorf("Generator(%d) = % x; want % x", flips, got, want)
		}
	}
}
