package nums_test

import (
	"bytes"
	"math/big"
	"math/rand"
	"slices"
	"testing"

	"casemate/api"
	"casemate/nums"
)

// value is the number that bytes stand for, the lowest first, by the library's great numbers.
func value(a []byte) *big.Int {
	b := slices.Clone(a)
	slices.Reverse(b)
	return new(big.Int).SetBytes(b)
}

// normal are the bytes of a number, without 00 at the end.
func normal(v *big.Int) []byte {
	b := v.Bytes()
	slices.Reverse(b)
	return b
}

// less is a less b, or 0, if b is above a.
func less(a, b *big.Int) *big.Int {
	if a.Cmp(b) < 0 {
		return new(big.Int)
	}
	return new(big.Int).Sub(a, b)
}

// numbers are some of n bytes: of any bytes, of noughts and ff alone, of one byte alone.
func numbers(r *rand.Rand, n int) [][]byte {
	loose, edges, lone := make([]byte, n), make([]byte, n), make([]byte, n)
	r.Read(loose)
	for i := range edges {
		edges[i] = byte(0xff * r.Intn(2))
	}
	if n > 0 {
		lone[r.Intn(n)] = byte(1 + r.Intn(255))
	}
	return [][]byte{loose, edges, lone}
}

// short are all numbers at the ends of one and of two bytes, 0 in three forms, and numbers with 00 at the end.
func short() [][]byte {
	out := [][]byte{nil, {}, {0}, {0, 0}, make([]byte, 40), {1, 0}, {0, 1, 0}, {255, 0, 0}, {255, 255, 0}}
	for _, v := range []int{1, 2, 3, 9, 10, 127, 128, 129, 254, 255} {
		out = append(out, []byte{byte(v)})
	}
	for _, v := range []int{256, 257, 511, 512, 0x7fff, 0x8000, 0xff00, 0xfffe, 0xffff} {
		out = append(out, []byte{byte(v), byte(v >> 8)})
	}
	return out
}

// noughted is a with n bytes of 00 behind it.
func noughted(a []byte, n int) []byte {
	return append(slices.Clone(a), make([]byte, n)...)
}

// ones is a number of n bytes of ff.
func ones(n int) []byte { return bytes.Repeat([]byte{0xff}, n) }

// power is 256 to the power of n.
func power(n int) []byte { return append(make([]byte, n), 1) }

// is holds an answer against the bytes that it must be.
func is(t *testing.T, call string, got, want []byte) {
	t.Helper()
	if !bytes.Equal(got, want) {
		t.Errorf("%s = %x; want %x", call, got, want)
	}
}

// mod is Mod of an m that is not 0.
func mod(t *testing.T, a, m []byte) []byte {
	t.Helper()
	got, err := nums.Mod(a, m)
	if err != api.OK {
		t.Fatalf("Mod(%x, %x): %d", a, m, err)
	}
	return got
}

// check holds all calls of two numbers against the library's.
func check(t *testing.T, a, b []byte) {
	t.Helper()
	x, y := value(a), value(b)
	is(t, "Norm", nums.Norm(a), normal(x))
	is(t, "Add", nums.Add(a, b), normal(new(big.Int).Add(x, y)))
	is(t, "Sub", nums.Sub(a, b), normal(less(x, y)))
	is(t, "Mul", nums.Mul(a, b), normal(new(big.Int).Mul(x, y)))
	if got := nums.Cmp(a, b); got != x.Cmp(y) {
		t.Errorf("Cmp(%x, %x) = %d; want %d", a, b, got, x.Cmp(y))
	}
	got, err := nums.Mod(a, b)
	if y.Sign() == 0 {
		if len(got) != 0 || err != api.ErrZero {
			t.Errorf("Mod(%x, %x) = %x, %d; want nothing, ErrZero", a, b, got, err)
		}
	} else if want := normal(new(big.Int).Mod(x, y)); !bytes.Equal(got, want) || err != api.OK {
		t.Errorf("Mod(%x, %x) = %x, %d; want %x", a, b, got, err, want)
	}
	if t.Failed() {
		t.Fatalf("of %x and %x", a, b)
	}
}

// P15.1, P15.2: the chapter's examples.
func TestExamples(t *testing.T) {
	is(t, "Add(ff, 01)", nums.Add([]byte{0xff}, []byte{1}), []byte{0, 1})
	is(t, "Mul(00 01, 00 01)", nums.Mul([]byte{0, 1}, []byte{0, 1}), []byte{0, 0, 1})
	is(t, "Sub(00 01, 01)", nums.Sub([]byte{0, 1}, []byte{1}), []byte{0xff})
	is(t, "Sub(01, 02)", nums.Sub([]byte{1}, []byte{2}), nil)
	if got := nums.Cmp([]byte{1, 0}, []byte{1}); got != 0 {
		t.Errorf("Cmp(01 00, 01) = %d; want 0", got)
	}
	is(t, "Mod(0a, 03)", mod(t, []byte{0x0a}, []byte{3}), []byte{1})
	if got, err := nums.Mod([]byte{1}, []byte{0}); len(got) != 0 || err != api.ErrZero {
		t.Errorf("Mod(01, 00) = %x, %d; want nothing, ErrZero", got, err)
	}
}

// P15.1: noughts at the end go, those ahead of another byte stay; of 0 there are no bytes.
func TestNorm(t *testing.T) {
	for _, x := range []struct{ a, want []byte }{
		{nil, nil},
		{[]byte{}, nil},
		{[]byte{0}, nil},
		{make([]byte, 1000), nil},
		{[]byte{1}, []byte{1}},
		{[]byte{1, 0}, []byte{1}},
		{[]byte{1, 0, 0, 0}, []byte{1}},
		{[]byte{0, 1}, []byte{0, 1}},
		{[]byte{0, 0, 1, 0, 0}, []byte{0, 0, 1}},
		{[]byte{1, 0, 2, 0}, []byte{1, 0, 2}},
		{[]byte{0xff, 0x80}, []byte{0xff, 0x80}},
	} {
		is(t, "Norm", nums.Norm(x.a), x.want)
		is(t, "Norm of Norm", nums.Norm(nums.Norm(x.a)), x.want)
	}
}

// P15.1: the highest byte that is unlike tells; noughts at the end count for nothing.
func TestCmp(t *testing.T) {
	for _, x := range []struct {
		a, b []byte
		want int
	}{
		{nil, nil, 0},
		{nil, make([]byte, 9), 0},
		{[]byte{0}, []byte{}, 0},
		{nil, []byte{1}, -1},
		{[]byte{0, 0}, []byte{1}, -1},
		{[]byte{2}, []byte{1}, 1},
		{[]byte{0xff}, []byte{0, 1}, -1},
		{[]byte{0xff, 0, 0}, []byte{0, 1}, -1},
		{[]byte{1, 2}, []byte{2, 1}, 1},
		{[]byte{2, 1}, []byte{1, 2}, -1},
		{[]byte{1, 2, 3}, []byte{2, 2, 3}, -1},
		{[]byte{1, 2, 3, 0, 0}, []byte{1, 2, 3}, 0},
		{[]byte{0x7f}, []byte{0x80}, -1},
		{[]byte{0, 0xff}, []byte{0xff, 0x7f}, 1},
		{ones(50), power(50), -1},
		{power(50), noughted(ones(50), 70), 1},
	} {
		if got := nums.Cmp(x.a, x.b); got != x.want {
			t.Errorf("Cmp(%x, %x) = %d; want %d", x.a, x.b, got, x.want)
		}
		if got := nums.Cmp(x.b, x.a); got != -x.want {
			t.Errorf("Cmp(%x, %x) = %d; want %d", x.b, x.a, got, -x.want)
		}
	}
}

// P15.1, P15.2: all pairs of numbers at the ends of bytes, with 0 as nil, as no bytes and as noughts.
func TestShort(t *testing.T) {
	for _, a := range short() {
		for _, b := range short() {
			check(t, a, b)
		}
	}
}

// P15.1, P15.2: all pairs of one byte, and what is left of all of two bytes by some of one.
func TestAllOfOneByte(t *testing.T) {
	for a := range 256 {
		for b := range 256 {
			check(t, []byte{byte(a)}, []byte{byte(b)})
		}
	}
	for _, b := range []int{1, 2, 3, 10, 127, 128, 129, 253, 254, 255} {
		for a := range 1 << 16 {
			got := mod(t, []byte{byte(a), byte(a >> 8)}, []byte{byte(b)})
			if want := byte(a % b); len(got) > 1 || len(got) == 1 && (got[0] != want || want == 0) || len(got) == 0 && want != 0 {
				t.Fatalf("Mod(%04x, %02x) = %x; want %02x", a, b, got, want)
			}
		}
	}
}

// P15.1, P15.2: numbers of unlike lengths, also with 00 at the end.
func TestAgainstLibrary(t *testing.T) {
	r := rand.New(rand.NewSource(15))
	for range 3000 {
		n, m := r.Intn(24), r.Intn(24)
		if r.Intn(8) == 0 {
			n += 80
		}
		if r.Intn(8) == 0 {
			m += 80
		}
		for _, a := range numbers(r, n) {
			for _, b := range numbers(r, m) {
				check(t, a, b)
				check(t, noughted(a, r.Intn(3)), noughted(b, r.Intn(3)))
			}
		}
	}
}

// P15.1: a carry goes through all bytes up to a new one; a borrow comes down through all of them.
func TestCarries(t *testing.T) {
	for n := range 300 {
		is(t, "Add(ff .., 1)", nums.Add(ones(n), []byte{1}), power(n))
		is(t, "Add(1, ff ..)", nums.Add([]byte{1}, ones(n)), power(n))
		is(t, "Add(ff .. 00, 1 00 00)", nums.Add(noughted(ones(n), 1), []byte{1, 0, 0}), power(n))
		is(t, "Sub(.. 00 1, 1)", nums.Sub(power(n), []byte{1}), ones(n))
		is(t, "Sub(.. 00 1, ff ..)", nums.Sub(power(n), ones(n)), []byte{1})
		is(t, "Sub(.. 00 1 00, 1 00 ..)", nums.Sub(noughted(power(n), 2), noughted([]byte{1}, n+9)), ones(n))
		if n > 0 {
			twice := append(append([]byte{0xfe}, ones(n-1)...), 1)
			is(t, "Add(ff .., ff ..)", nums.Add(ones(n), ones(n)), twice)
			square := append(append([]byte{1}, make([]byte, n-1)...), append([]byte{0xfe}, ones(n-1)...)...)
			is(t, "Mul(ff .., ff ..)", nums.Mul(ones(n), ones(n)), square)
		}
	}
}

// P15.1: less is nothing where b is above a by however little, and where both are the same number.
func TestSubBelow(t *testing.T) {
	for n := range 60 {
		a := noughted(ones(n), n%4)
		for _, b := range [][]byte{ones(n), noughted(ones(n), 3), power(n), ones(n + 1), power(n + 40)} {
			is(t, "Sub", nums.Sub(a, b), nil)
		}
	}
}

// P15.1: 0 adds nothing, takes nothing away, and makes every product 0; 1 leaves a product as it is.
func TestZeroAndOne(t *testing.T) {
	r := rand.New(rand.NewSource(151))
	for n := range 40 {
		for _, a := range numbers(r, n) {
			want := normal(value(a))
			for _, zero := range [][]byte{nil, {}, {0}, make([]byte, 50)} {
				is(t, "Add(a, 0)", nums.Add(a, zero), want)
				is(t, "Add(0, a)", nums.Add(zero, a), want)
				is(t, "Sub(a, 0)", nums.Sub(a, zero), want)
				is(t, "Sub(0, a)", nums.Sub(zero, a), nil)
				is(t, "Mul(a, 0)", nums.Mul(a, zero), nil)
				is(t, "Mul(0, a)", nums.Mul(zero, a), nil)
			}
			is(t, "Mul(a, 1)", nums.Mul(a, []byte{1, 0}), want)
			is(t, "Mul(1, a)", nums.Mul([]byte{1}, a), want)
			is(t, "Mod(a, 1)", mod(t, a, []byte{1, 0, 0}), nil)
		}
	}
}

// P15.2, R1: ErrZero, and no bytes, for 0 in every form, whatever a is.
func TestModZero(t *testing.T) {
	for _, a := range [][]byte{nil, {}, {0}, {1}, {0, 1}, ones(100), noughted(ones(3), 9)} {
		for _, m := range [][]byte{nil, {}, {0}, {0, 0}, make([]byte, 500)} {
			if got, err := nums.Mod(a, m); len(got) != 0 || err != api.ErrZero {
				t.Errorf("Mod(%x, %x) = %x, %d; want nothing, ErrZero", a, m, got, err)
			}
		}
	}
}

// P15.2: a number below m is left as it is; m itself and 0 leave nothing.
func TestModBelow(t *testing.T) {
	r := rand.New(rand.NewSource(152))
	for n := 1; n < 60; n++ {
		for _, m := range numbers(r, n) {
			if value(m).Sign() == 0 {
				continue
			}
			under := nums.Sub(m, []byte{1})
			is(t, "Mod(m - 1, m)", mod(t, noughted(under, 5), m), under)
			is(t, "Mod(m, m)", mod(t, m, noughted(m, 2)), nil)
			is(t, "Mod(m, m)", mod(t, noughted(m, 2), m), nil)
			is(t, "Mod(m + 1, m)", mod(t, nums.Add(m, []byte{1}), m), mod(t, []byte{1}, m))
			for _, zero := range [][]byte{nil, {}, {0}, make([]byte, 2*n)} {
				is(t, "Mod(0, m)", mod(t, zero, m), nil)
			}
		}
	}
}

// P15.2: multiples of m, and those next to them: here it is the lowest bytes that tell how often m is taken away.
func TestModMultiples(t *testing.T) {
	r := rand.New(rand.NewSource(153))
	for n := 1; n < 30; n++ {
		for _, m := range append(numbers(r, n), ones(n), power(n-1), power(n), nums.Add(power(n), []byte{1}), nums.Sub(power(n), []byte{1})) {
			if value(m).Sign() == 0 {
				continue
			}
			under := nums.Sub(m, []byte{1})
			for _, k := range [][]byte{{1}, {2}, {127}, {128}, {254}, {255}, {0, 1}, {1, 1}, {255, 255}, ones(9), power(20), numbers(r, 33)[0]} {
				a := nums.Mul(m, k)
				is(t, "Mod(k m, m)", mod(t, a, m), nil)
				is(t, "Mod(k m - 1, m)", mod(t, nums.Sub(a, []byte{1}), m), under)
				is(t, "Mod(k m + m - 1, m)", mod(t, nums.Add(a, under), m), under)
				is(t, "Mod(k m + 1, m)", mod(t, nums.Add(a, []byte{1}), m), mod(t, []byte{1}, m))
			}
		}
	}
}

// P15.2: what is left of numbers far greater than the one that is taken away, which taking it away one by one would not come to in any time.
func TestModFarGreater(t *testing.T) {
	r := rand.New(rand.NewSource(154))
	for _, n := range []int{100, 1000, 20000} {
		for _, m := range []int{1, 2, 6, 7, 8, 9, 32, 64} {
			a, b := numbers(r, n)[0], numbers(r, m)[0]
			b[m-1] |= 1
			for _, x := range [][]byte{a, ones(n), power(n)} {
				is(t, "Mod", mod(t, x, b), normal(new(big.Int).Mod(value(x), value(b))))
				is(t, "Mod by ff ..", mod(t, x, ones(m)), normal(new(big.Int).Mod(value(x), value(ones(m)))))
				is(t, "Mod by .. 00 1", mod(t, x, power(m-1)), nums.Norm(x[:m-1]))
			}
		}
	}
	is(t, "Mod of 256^1000000 by 255", mod(t, power(1000000), []byte{255}), []byte{1})
	is(t, "Mod of 256^1000000 less 1 by 254", mod(t, ones(1000000), []byte{254}), normal(new(big.Int).Mod(value(ones(1000000)), big.NewInt(254))))
}

// P15.1, P15.2: long numbers by long ones.
func TestLong(t *testing.T) {
	r := rand.New(rand.NewSource(155))
	a, b := numbers(r, 3000)[0], numbers(r, 2000)[0]
	check(t, a, b)
	check(t, b, a)
	check(t, ones(3000), ones(2000))
	check(t, power(3000), b)
	check(t, nums.Mul(a, b), b)
}

// P15.3: sums and products hang on no order and no grouping, and products go through sums.
func TestOrderAndGrouping(t *testing.T) {
	r := rand.New(rand.NewSource(156))
	for range 400 {
		a, b, c := numbers(r, r.Intn(30))[r.Intn(3)], numbers(r, r.Intn(30))[r.Intn(3)], numbers(r, r.Intn(30))[r.Intn(3)]
		is(t, "a + b", nums.Add(a, b), nums.Add(b, a))
		is(t, "a b", nums.Mul(a, b), nums.Mul(b, a))
		is(t, "(a + b) + c", nums.Add(nums.Add(a, b), c), nums.Add(a, nums.Add(b, c)))
		is(t, "(a b) c", nums.Mul(nums.Mul(a, b), c), nums.Mul(a, nums.Mul(b, c)))
		is(t, "a (b + c)", nums.Mul(a, nums.Add(b, c)), nums.Add(nums.Mul(a, b), nums.Mul(a, c)))
		is(t, "(a + b) - b", nums.Sub(nums.Add(a, b), b), nums.Norm(a))
		if got := nums.Cmp(nums.Add(a, b), a); got != min(1, len(nums.Norm(b))) {
			t.Errorf("Cmp(a + b, a) = %d with b = %x", got, b)
		}
	}
}

// P15.3: what is left of a sum or a product is that of the sum or the product of what is left.
func TestLeftOfSumsAndProducts(t *testing.T) {
	r := rand.New(rand.NewSource(157))
	for range 400 {
		a, b := numbers(r, r.Intn(70))[r.Intn(3)], numbers(r, r.Intn(70))[r.Intn(3)]
		m := nums.Add(numbers(r, r.Intn(40))[r.Intn(3)], []byte{1})
		x, y := mod(t, a, m), mod(t, b, m)
		is(t, "a + b", mod(t, nums.Add(a, b), m), mod(t, nums.Add(x, y), m))
		is(t, "a b", mod(t, nums.Mul(a, b), m), mod(t, nums.Mul(x, y), m))
		is(t, "what is left of what is left", mod(t, x, m), x)
		if nums.Cmp(x, m) != -1 {
			t.Errorf("Mod(%x, %x) = %x is not below", a, m, x)
		}
	}
}

// roomy gives the same bytes in a larger array, and that array, so that a test sees whether the spare room was written into.
func roomy(a []byte) (front, whole []byte) {
	whole = bytes.Repeat([]byte{0xa5}, len(a)+40)
	copy(whole, a)
	return whole[:len(a)], whole
}

// calls are all those that answer bytes, each of two numbers.
func calls() map[string]func(a, b []byte) []byte {
	return map[string]func(a, b []byte) []byte{
		"Norm": func(a, _ []byte) []byte { return nums.Norm(a) },
		"Cmp":  func(a, b []byte) []byte { return []byte{byte(nums.Cmp(a, b))} },
		"Add":  nums.Add,
		"Sub":  nums.Sub,
		"Mul":  nums.Mul,
		"Mod": func(a, b []byte) []byte {
			out, _ := nums.Mod(a, b)
			return out
		},
	}
}

// spoil writes over an answer and all room behind it.
func spoil(b []byte) {
	b = b[:cap(b)]
	for i := range b {
		b[i] ^= 0xff
	}
}

// pairs are numbers of which an answer could be one that was handed in: 0 beside another, 1, one below the other, both alike.
func pairs() [][2][]byte {
	a, b := []byte{7, 0, 9, 1}, []byte{3, 0xff, 2}
	out := [][2][]byte{{a, b}, {b, a}, {a, a}, {ones(20), {1}}, {power(20), {1}}, {noughted(a, 3), noughted(b, 2)}}
	for _, x := range [][]byte{nil, {}, {0}, {0, 0, 0}, {1}, {1, 0}} {
		out = append(out, [2][]byte{a, x}, [2][]byte{x, a}, [2][]byte{x, x})
	}
	return out
}

// R2: what was handed in stays as it was, nor is its spare room written into; an answer shares no bytes with it, and no two answers do.
func TestMemory(t *testing.T) {
	for name, call := range calls() {
		for _, p := range pairs() {
			a, wholeA := roomy(p[0])
			b, wholeB := roomy(p[1])
			wasA, wasB := slices.Clone(wholeA), slices.Clone(wholeB)
			first, second := call(a, b), call(a, b)
			keep := slices.Clone(second)
			if !bytes.Equal(wholeA, wasA) || !bytes.Equal(wholeB, wasB) {
				t.Errorf("%s(%x, %x) wrote into what it was handed: %x, %x", name, p[0], p[1], wholeA, wholeB)
			}
			spoil(first)
			if !bytes.Equal(wholeA, wasA) || !bytes.Equal(wholeB, wasB) {
				t.Errorf("%s(%x, %x) answers bytes that it was handed", name, p[0], p[1])
			}
			if !bytes.Equal(second, keep) {
				t.Errorf("%s(%x, %x): two answers share bytes", name, p[0], p[1])
			}
			spoil(wholeA)
			spoil(wholeB)
			if !bytes.Equal(second, keep) {
				t.Errorf("%s(%x, %x): the answer changes with what was handed in", name, p[0], p[1])
			}
		}
	}
}

// R2: two numbers that share bytes, or are the same ones, are as two that do not.
func TestSharedArguments(t *testing.T) {
	r := rand.New(rand.NewSource(158))
	for range 200 {
		whole := numbers(r, 30)[r.Intn(3)]
		was := slices.Clone(whole)
		from, to := r.Intn(15), 15+r.Intn(16)
		for _, p := range [][2][]byte{{whole, whole}, {whole[:to], whole[from:]}, {whole[from:to], whole}} {
			check(t, p[0], p[1])
			for name, call := range calls() {
				if got, want := call(p[0], p[1]), call(slices.Clone(p[0]), slices.Clone(p[1])); !bytes.Equal(got, want) {
					t.Errorf("%s(%x, %x) of shared bytes = %x; want %x", name, p[0], p[1], got, want)
				}
			}
		}
		if !bytes.Equal(whole, was) {
			t.Fatalf("what was handed in was changed: %x to %x", was, whole)
		}
	}
}
