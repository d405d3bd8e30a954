package field_test

import (
	"math/big"
	"math/rand"
	"slices"
	"testing"

	"casemate/api"
	"casemate/field"
)

// element is what the calls take: 32 bytes, the lowest first.
type element = [32]byte

// nought is what stands beside every error.
var nought element

// two is 2 to the power of n.
func two(n uint) *big.Int { return new(big.Int).Lsh(big.NewInt(1), n) }

// prime is 2^255 - 19.
func prime() *big.Int { return new(big.Int).Sub(two(255), big.NewInt(19)) }

// value is the number that bytes stand for, by the library's great numbers.
func value(a element) *big.Int {
	b := slices.Clone(a[:])
	slices.Reverse(b)
	return new(big.Int).SetBytes(b)
}

// laid are the bytes of a number below 2^256.
func laid(v *big.Int) element {
	var out element
	b := v.Bytes()
	slices.Reverse(b)
	copy(out[:], b)
	return out
}

// left are the bytes of what is left of a number by p.
func left(v *big.Int) element { return laid(new(big.Int).Mod(v, prime())) }

// small is the element of a small number; of one below 0 it is that of p less it.
func small(n int64) element { return left(big.NewInt(n)) }

// offPrime is p and n.
func offPrime(n int64) element { return laid(new(big.Int).Add(prime(), big.NewInt(n))) }

// offPower is 2 to the power of bit, and n.
func offPower(bit uint, n int64) element { return laid(new(big.Int).Add(two(bit), big.NewInt(n))) }

// edges are elements at the ends of the field, of words and of halves, and the roots of p less 1.
func edges() []element {
	out := []element{small(0), small(1), small(2), small(3), small(18), small(19), small(20), small(37), small(38), small(39), small(-1), small(-2), small(-3), small(-19), small(-20), small(-38)}
	for _, bit := range []uint{8, 32, 63, 64, 65, 127, 128, 129, 191, 192, 193, 251, 252, 253, 254} {
		out = append(out, offPower(bit, -1), offPower(bit, 0), offPower(bit, 1), left(new(big.Int).Neg(two(bit))))
	}
	half := new(big.Int).Rsh(prime(), 1)
	i := new(big.Int).ModSqrt(value(small(-1)), prime())
	return append(out, laid(half), left(new(big.Int).Add(half, big.NewInt(1))), laid(i), left(new(big.Int).Neg(i)))
}

// strangers are numbers that are no elements.
func strangers() []element {
	var all element
	for i := range all {
		all[i] = 0xff
	}
	out := []element{offPrime(0), offPrime(1), offPrime(2), offPower(255, -1), offPower(255, 0), offPower(255, 1), all}
	twice := new(big.Int).Lsh(prime(), 1)
	for _, n := range []int64{-1, 0, 1, 37} {
		out = append(out, laid(new(big.Int).Add(twice, big.NewInt(n))))
	}
	return out
}

// loose are some elements: of any bytes, and of noughts and ones alone, by whole bytes and by whole words, so that carries go far.
func loose(r *rand.Rand) []element {
	var free, bytes, words element
	r.Read(free[:])
	for i := range bytes {
		bytes[i] = byte(0xff * r.Intn(2))
	}
	for i := range 4 {
		fill := byte(0xff * r.Intn(2))
		for j := range 8 {
			words[8*i+j] = fill
		}
	}
	return []element{left(value(free)), left(value(bytes)), left(value(words))}
}

// is holds an answer against the element that it must be.
func is(t *testing.T, call string, got element, err api.Errno, want element) {
	t.Helper()
	if got != want || err != api.OK {
		t.Errorf("%s = %x, %d; want %x", call, got, err, want)
	}
}

// add is the sum of elements.
func add(t *testing.T, a, b element) element { return sure(t, "Add", field.Add, a, b) }

// sub is the difference of elements.
func sub(t *testing.T, a, b element) element { return sure(t, "Sub", field.Sub, a, b) }

// mul is the product of elements.
func mul(t *testing.T, a, b element) element { return sure(t, "Mul", field.Mul, a, b) }

// sure is what a call answers that may answer no error.
func sure(t *testing.T, name string, call func(a, b element) (element, api.Errno), a, b element) element {
	t.Helper()
	got, err := call(a, b)
	if err != api.OK || !field.Is(got) {
		t.Fatalf("%s(%x, %x) = %x, %d; want an element", name, a, b, got, err)
	}
	return got
}

// inv is Inv of an element that is not 0.
func inv(t *testing.T, a element) element {
	t.Helper()
	got, err := field.Inv(a)
	if err != api.OK || !field.Is(got) {
		t.Fatalf("Inv(%x) = %x, %d; want an element", a, got, err)
	}
	return got
}

// check holds the calls of two elements against the library's numbers.
func check(t *testing.T, a, b element) {
	t.Helper()
	x, y := value(a), value(b)
	for _, c := range []struct {
		name string
		call func(a, b element) (element, api.Errno)
		want *big.Int
	}{
		{"Add", field.Add, new(big.Int).Add(x, y)},
		{"Sub", field.Sub, new(big.Int).Sub(x, y)},
		{"Mul", field.Mul, new(big.Int).Mul(x, y)},
	} {
		if got, err := c.call(a, b); got != left(c.want) || err != api.OK {
			t.Fatalf("%s(%x, %x) = %x, %d; want %x", c.name, a, b, got, err, left(c.want))
		}
	}
}

// checkOne holds the calls of one element against the library's numbers.
func checkOne(t *testing.T, a element) {
	t.Helper()
	if !field.Is(a) {
		t.Fatalf("Is(%x) = false", a)
	}
	if a != nought {
		got, err := field.Inv(a)
		if want := laid(new(big.Int).ModInverse(value(a), prime())); got != want || err != api.OK {
			t.Fatalf("Inv(%x) = %x, %d; want %x", a, got, err, want)
		}
	}
	got, ok, err := field.Root(a)
	if want, has := evenRoot(a); got != want || ok != has || err != api.OK {
		t.Fatalf("Root(%x) = %x, %v, %d; want %x, %v", a, got, ok, err, want, has)
	}
}

// evenRoot is the root of an element that is even, by the library's numbers.
func evenRoot(a element) (element, bool) {
	r := new(big.Int).ModSqrt(value(a), prime())
	if r == nil {
		return nought, false
	}
	if r.Bit(0) == 1 {
		r.Sub(prime(), r)
	}
	return laid(r), true
}

// P16.1, P16.2: the chapter's examples.
func TestExamples(t *testing.T) {
	got, err := field.Add(offPrime(-1), small(2))
	is(t, "Add(p - 1, 2)", got, err, small(1))
	got, err = field.Sub(small(0), small(1))
	is(t, "Sub(0, 1)", got, err, offPrime(-1))
	got, err = field.Mul(offPrime(-1), offPrime(-1))
	is(t, "Mul(p - 1, p - 1)", got, err, small(1))
	got, err = field.Inv(small(2))
	is(t, "Inv(2)", got, err, laid(new(big.Int).Rsh(value(offPrime(1)), 1)))
	if got, err := field.Inv(small(0)); got != nought || err != api.ErrZero {
		t.Errorf("Inv(0) = %x, %d; want 0, ErrZero", got, err)
	}
	if got, ok, err := field.Root(small(4)); got != small(2) || !ok || err != api.OK {
		t.Errorf("Root(4) = %x, %v, %d; want 2, true", got, ok, err)
	}
	if got, ok, err := field.Root(small(2)); got != nought || ok || err != api.OK {
		t.Errorf("Root(2) = %x, %v, %d; want 0, false", got, ok, err)
	}
}

// P16.1: the numbers below p are elements, no others; each byte counts.
func TestIs(t *testing.T) {
	for _, a := range edges() {
		if !field.Is(a) {
			t.Errorf("Is(%x) = false", a)
		}
	}
	for _, a := range strangers() {
		if field.Is(a) {
			t.Errorf("Is(%x) = true", a)
		}
	}
	for n := int64(-300); n <= 18; n++ {
		if a := offPrime(n); field.Is(a) != (n < 0) {
			t.Errorf("Is(%x) = %v", a, n >= 0)
		}
	}
	for bit := range uint(256) {
		if a := laid(two(bit)); field.Is(a) != (bit < 255) {
			t.Errorf("Is(%x) = %v", a, bit >= 255)
		}
		if a := laid(new(big.Int).Xor(two(bit), prime())); field.Is(a) != (value(a).Cmp(prime()) < 0) {
			t.Errorf("Is(%x) = %v", a, field.Is(a))
		}
	}
}

// P16.1, P16.2, R1: ErrArg, and noughts beside it, if an argument is no element: the first, the second, both, whatever the other one is.
func TestStrangers(t *testing.T) {
	calls := map[string]func(a, b element) (element, api.Errno){"Add": field.Add, "Sub": field.Sub, "Mul": field.Mul}
	for _, s := range strangers() {
		for name, call := range calls {
			for _, a := range append(edges(), strangers()...) {
				if got, err := call(s, a); got != nought || err != api.ErrArg {
					t.Errorf("%s(%x, %x) = %x, %d; want 0, ErrArg", name, s, a, got, err)
				}
				if got, err := call(a, s); got != nought || err != api.ErrArg {
					t.Errorf("%s(%x, %x) = %x, %d; want 0, ErrArg", name, a, s, got, err)
				}
			}
		}
		if got, err := field.Inv(s); got != nought || err != api.ErrArg {
			t.Errorf("Inv(%x) = %x, %d; want 0, ErrArg", s, got, err)
		}
		if got, ok, err := field.Root(s); got != nought || ok || err != api.ErrArg {
			t.Errorf("Root(%x) = %x, %v, %d; want 0, false, ErrArg", s, got, ok, err)
		}
	}
}

// P16.1: all pairs of elements at the ends, the greatest sum and product and the lowest difference among them.
func TestEdges(t *testing.T) {
	for _, a := range edges() {
		for _, b := range edges() {
			check(t, a, b)
		}
	}
	is(t, "p - 1 + p - 1", add(t, offPrime(-1), offPrime(-1)), api.OK, offPrime(-2))
	is(t, "p - 1 + 1", add(t, offPrime(-1), small(1)), api.OK, nought)
	is(t, "p - 2 + 1", add(t, offPrime(-2), small(1)), api.OK, offPrime(-1))
	is(t, "0 - (p - 1)", sub(t, small(0), offPrime(-1)), api.OK, small(1))
	is(t, "(p - 1) - 0", sub(t, offPrime(-1), small(0)), api.OK, offPrime(-1))
	is(t, "(p - 1) - (p - 1)", sub(t, offPrime(-1), offPrime(-1)), api.OK, nought)
	is(t, "0 - 0", sub(t, small(0), small(0)), api.OK, nought)
	is(t, "(p - 1) (p - 2)", mul(t, offPrime(-1), offPrime(-2)), api.OK, small(2))
}

// P16.1: elements of any bytes, and of long rows of noughts and ones.
func TestAgainstLibrary(t *testing.T) {
	r := rand.New(rand.NewSource(16))
	for range 3000 {
		for _, a := range loose(r) {
			for _, b := range loose(r) {
				check(t, a, b)
			}
			check(t, a, a)
		}
	}
}

// P16.1: sums about p, and differences about 0: here it is the lowest bit that tells whether p is taken away.
func TestNextToPrime(t *testing.T) {
	r := rand.New(rand.NewSource(161))
	for range 300 {
		for _, a := range loose(r) {
			for n := int64(-3); n <= 3; n++ {
				b := left(new(big.Int).Sub(big.NewInt(n), value(a)))
				is(t, "a + (n - a)", add(t, a, b), api.OK, small(n))
				c := left(new(big.Int).Sub(value(a), big.NewInt(n)))
				is(t, "a - (a - n)", sub(t, a, c), api.OK, small(n))
			}
		}
	}
}

// P16.1: products of which little is left: what comes ahead of the last taking round is p and that little, or the little alone, and its carries go through all words.
func TestLittleIsLeft(t *testing.T) {
	r := rand.New(rand.NewSource(162))
	for n := int64(-60); n <= 900; n++ {
		for _, a := range append(loose(r), offPrime(-1), offPrime(-int64(r.Intn(1000)+2)), offPower(254, -1)) {
			if a == nought {
				continue
			}
			b := new(big.Int).ModInverse(value(a), prime())
			b.Mul(b, big.NewInt(n))
			is(t, "a (n / a)", mul(t, a, left(b)), api.OK, small(n))
		}
	}
}

// P16.1: 0 adds nothing, takes nothing away, and makes every product 0; 1 leaves a product as it is.
func TestZeroAndOne(t *testing.T) {
	r := rand.New(rand.NewSource(163))
	for _, a := range append(edges(), loose(r)...) {
		is(t, "a + 0", add(t, a, small(0)), api.OK, a)
		is(t, "0 + a", add(t, small(0), a), api.OK, a)
		is(t, "a - 0", sub(t, a, small(0)), api.OK, a)
		is(t, "a - a", sub(t, a, a), api.OK, nought)
		is(t, "a 0", mul(t, a, small(0)), api.OK, nought)
		is(t, "0 a", mul(t, small(0), a), api.OK, nought)
		is(t, "a 1", mul(t, a, small(1)), api.OK, a)
		is(t, "1 a", mul(t, small(1), a), api.OK, a)
		is(t, "a (p - 1)", mul(t, a, offPrime(-1)), api.OK, sub(t, small(0), a))
	}
}

// P16.2: inverses and roots of elements at the ends, of small ones, and of any.
func TestInvAndRootAgainstLibrary(t *testing.T) {
	r := rand.New(rand.NewSource(164))
	for _, a := range edges() {
		checkOne(t, a)
	}
	for n := int64(-300); n <= 300; n++ {
		checkOne(t, small(n))
	}
	for range 300 {
		for _, a := range loose(r) {
			checkOne(t, a)
		}
	}
}

// P16.2, R1: 0 has no inverse; p, which is 0 when it is taken round, is no element.
func TestInvZero(t *testing.T) {
	if got, err := field.Inv(nought); got != nought || err != api.ErrZero {
		t.Errorf("Inv(0) = %x, %d; want 0, ErrZero", got, err)
	}
	if got, err := field.Inv(offPrime(0)); got != nought || err != api.ErrArg {
		t.Errorf("Inv(p) = %x, %d; want 0, ErrArg", got, err)
	}
	is(t, "Inv(1)", inv(t, small(1)), api.OK, small(1))
	is(t, "Inv(p - 1)", inv(t, offPrime(-1)), api.OK, offPrime(-1))
}

// P16.2: of a square the root is the one of both that is even: of 0 it is 0, of 1 it is p - 1, as 1 is odd.
func TestRootIsEven(t *testing.T) {
	for _, x := range []struct{ a, want element }{
		{small(0), small(0)},
		{small(1), offPrime(-1)},
		{small(4), small(2)},
		{small(9), offPrime(-3)},
		{small(16), small(4)},
		{small(25), offPrime(-5)},
		{small(36), small(6)},
	} {
		if got, ok, err := field.Root(x.a); got != x.want || !ok || err != api.OK {
			t.Errorf("Root(%x) = %x, %v, %d; want %x, true", x.a, got, ok, err, x.want)
		}
	}
	r := rand.New(rand.NewSource(165))
	for range 100 {
		for _, a := range append(loose(r), offPrime(-int64(r.Intn(1000)+1))) {
			want := a
			if a[0]&1 == 1 {
				want = sub(t, small(0), a)
			}
			if got, ok, err := field.Root(mul(t, a, a)); got != want || !ok || err != api.OK {
				t.Errorf("Root of the square of %x = %x, %v, %d; want %x, true", a, got, ok, err, want)
			}
		}
	}
}

// P16.2: of what is no square there is 0 and false, and no error.
func TestNoRoot(t *testing.T) {
	r := rand.New(rand.NewSource(166))
	for range 100 {
		for _, a := range append(loose(r), small(1), offPrime(-1)) {
			if a == nought {
				continue
			}
			none := mul(t, small(2), mul(t, a, a))
			if got, ok, err := field.Root(none); got != nought || ok || err != api.OK {
				t.Errorf("Root(%x) = %x, %v, %d; want 0, false", none, got, ok, err)
			}
		}
	}
}

// P16.3: sums and products hang on no order and no grouping, and a product of a sum is the sum of the products.
func TestOrderAndGrouping(t *testing.T) {
	r := rand.New(rand.NewSource(167))
	pick := func() element {
		some := append(loose(r), edges()...)
		return some[r.Intn(len(some))]
	}
	for range 400 {
		a, b, c := pick(), pick(), pick()
		is(t, "a + b", add(t, a, b), api.OK, add(t, b, a))
		is(t, "a b", mul(t, a, b), api.OK, mul(t, b, a))
		is(t, "(a + b) + c", add(t, add(t, a, b), c), api.OK, add(t, a, add(t, b, c)))
		is(t, "(a b) c", mul(t, mul(t, a, b), c), api.OK, mul(t, a, mul(t, b, c)))
		is(t, "a (b + c)", mul(t, a, add(t, b, c)), api.OK, add(t, mul(t, a, b), mul(t, a, c)))
		is(t, "a (b - c)", mul(t, a, sub(t, b, c)), api.OK, sub(t, mul(t, a, b), mul(t, a, c)))
		is(t, "(a + b) - b", sub(t, add(t, a, b), b), api.OK, a)
		is(t, "(a - b) + b", add(t, sub(t, a, b), b), api.OK, a)
	}
}

// P16.3: each element but 0 has an inverse, whose inverse it is; that of a product is the product of both.
func TestInverses(t *testing.T) {
	r := rand.New(rand.NewSource(168))
	for _, a := range append(edges(), loose(r)...) {
		if a == nought {
			continue
		}
		is(t, "a / a", mul(t, a, inv(t, a)), api.OK, small(1))
		is(t, "1 / (1 / a)", inv(t, inv(t, a)), api.OK, a)
		is(t, "1 / (3 a)", inv(t, mul(t, small(3), a)), api.OK, mul(t, inv(t, small(3)), inv(t, a)))
	}
}

// P16.3: squares, and no others, have roots: of a and of 2 a just one has, if a is not 0 (then both are 0, and have one).
func TestJustOneHasARoot(t *testing.T) {
	r := rand.New(rand.NewSource(169))
	some := edges()
	for range 100 {
		some = append(some, loose(r)...)
	}
	for _, a := range some {
		has := 0
		for _, b := range []element{a, add(t, a, a)} {
			root, ok, err := field.Root(b)
			if err != api.OK {
				t.Fatalf("Root(%x): %d", b, err)
			}
			if !ok {
				continue
			}
			has++
			if root[0]&1 != 0 || !field.Is(root) {
				t.Errorf("Root(%x) = %x is not an even element", b, root)
			}
			is(t, "Root(b) Root(b)", mul(t, root, root), api.OK, b)
		}
		want := 1
		if a == nought {
			want = 2
		}
		if has != want {
			t.Errorf("of %x and twice it %d have roots; want %d", a, has, want)
		}
	}
}

// R2: the same call answers the same, whatever was asked and answered in between.
func TestNothingIsKept(t *testing.T) {
	a, b := offPower(254, 1), offPrime(-7)
	first, r := mul(t, a, b), inv(t, a)
	for _, s := range strangers() {
		field.Mul(s, a)
		field.Inv(s)
		field.Root(s)
	}
	for _, x := range edges() {
		field.Add(x, b)
		field.Root(x)
	}
	is(t, "Mul", mul(t, a, b), api.OK, first)
	is(t, "Inv", inv(t, a), api.OK, r)
}
