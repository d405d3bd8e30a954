package gf_test

import (
	"math"
	"math/rand"
	"testing"

	"casemate/api"
	"casemate/gf"
)

// Numbers that are no elements: next to the elements, and at the ends of the numbers.
var outside = []int{-1, -2, -8191, -8192, 8192, 8193, 16384, 1 << 32, 1<<32 + 1, math.MinInt, math.MinInt + 1, math.MaxInt, math.MaxInt - 1, math.MinInt32, math.MaxInt32}

// Powers that are far out, where a count of steps would not end and a sign can't be turned.
var far = []int{math.MinInt, math.MinInt + 1, math.MaxInt, math.MaxInt - 1, math.MinInt32, math.MaxInt32, 1 << 40, -(1 << 40)}

// long multiplies by the words of the chapter: all coefficients first, then the multiples of the modulus are taken away from the top.
func long(a, b int) int {
	var digits [26]int
	for i := range 13 {
		for j := range 13 {
			digits[i+j] += a >> i & 1 * (b >> j & 1)
		}
	}
	for top := 25; top >= 13; top-- {
		if digits[top]%2 == 1 {
			for _, place := range []int{13, 4, 3, 1, 0} {
				digits[top-13+place]++
			}
		}
	}
	sum := 0
	for i := range 13 {
		sum += digits[i] % 2 << i
	}
	return sum
}

// mul is Mul of two that are known to be elements.
func mul(t *testing.T, a, b int) int {
	t.Helper()
	got, err := gf.Mul(a, b)
	if err != api.OK || got < 0 || got >= api.Field {
		t.Fatalf("Mul(%d, %d) = %d, %d", a, b, got, err)
	}
	return got
}

// pow is Pow where there is one.
func pow(t *testing.T, a, n int) int {
	t.Helper()
	got, err := gf.Pow(a, n)
	if err != api.OK || got < 0 || got >= api.Field {
		t.Fatalf("Pow(%d, %d) = %d, %d", a, n, got, err)
	}
	return got
}

// P2.1: the chapter's examples, and edges.
func TestMul(t *testing.T) {
	for _, x := range []struct{ a, b, want int }{
		{2, 4096, 27},
		{4096, 2, 27},
		{3, 3, 5},
		{0, 0, 0},
		{0, 8191, 0},
		{8191, 0, 0},
		{1, 8191, 8191},
		{8191, 1, 8191},
		{2, 4095, 8190},
		{4096, 4096, 6234},
		{2, 4109, 1},
	} {
		if got, err := gf.Mul(x.a, x.b); got != x.want || err != api.OK {
			t.Errorf("Mul(%d, %d) = %d, %d; want %d", x.a, x.b, got, err, x.want)
		}
	}
}

// P2.1: products worked out at length, of each pair of powers of two, and of each element with some.
func TestMulAtLength(t *testing.T) {
	for i := range 13 {
		for j := range 13 {
			if got, want := mul(t, 1<<i, 1<<j), long(1<<i, 1<<j); got != want {
				t.Errorf("Mul(%d, %d) = %d; want %d", 1<<i, 1<<j, got, want)
			}
		}
	}
	source := rand.New(rand.NewSource(21))
	for a := range api.Field {
		for _, b := range []int{0, 1, 2, 4096, 8191, a, source.Intn(api.Field)} {
			if got, want := mul(t, a, b), long(a, b); got != want {
				t.Errorf("Mul(%d, %d) = %d; want %d", a, b, got, want)
			}
		}
	}
}

// P2.1, R1: what is no element, on either side or both, also beside a 0.
func TestMulNoElement(t *testing.T) {
	for _, x := range outside {
		for _, pair := range [][2]int{{x, 0}, {0, x}, {x, 1}, {1, x}, {x, 8191}, {8191, x}, {x, x}} {
			if got, err := gf.Mul(pair[0], pair[1]); got != 0 || err != api.ErrArg {
				t.Errorf("Mul(%d, %d) = %d, %d; want 0, ErrArg", pair[0], pair[1], got, err)
			}
		}
	}
}

// P2.1: the chapter's examples, and each element: the product with its inverse is 1.
func TestInv(t *testing.T) {
	if got, err := gf.Inv(2); got != 4109 || err != api.OK {
		t.Errorf("Inv(2) = %d, %d; want 4109", got, err)
	}
	if got, err := gf.Inv(1); got != 1 || err != api.OK {
		t.Errorf("Inv(1) = %d, %d; want 1", got, err)
	}
	if got, err := gf.Inv(0); got != 0 || err != api.ErrZero {
		t.Errorf("Inv(0) = %d, %d; want 0, ErrZero", got, err)
	}
	for a := 1; a < api.Field; a++ {
		got, err := gf.Inv(a)
		if err != api.OK || got < 1 || got >= api.Field || long(a, got) != 1 {
			t.Errorf("Inv(%d) = %d, %d", a, got, err)
		}
	}
}

// P2.1, R1: what is no element has no inverse, no power and no logarithm, whichever power it is.
func TestNoElement(t *testing.T) {
	for _, x := range outside {
		if got, err := gf.Inv(x); got != 0 || err != api.ErrArg {
			t.Errorf("Inv(%d) = %d, %d; want 0, ErrArg", x, got, err)
		}
		if got, err := gf.Log(x); got != 0 || err != api.ErrArg {
			t.Errorf("Log(%d) = %d, %d; want 0, ErrArg", x, got, err)
		}
		for _, n := range append([]int{-2, -1, 0, 1, 2, 8191, -8191}, far...) {
			if got, err := gf.Pow(x, n); got != 0 || err != api.ErrArg {
				t.Errorf("Pow(%d, %d) = %d, %d; want 0, ErrArg", x, n, got, err)
			}
		}
	}
}

// P2.2: the chapter's examples, and edges.
func TestPow(t *testing.T) {
	for _, x := range []struct {
		a, n, want int
		err        api.Errno
	}{
		{0, 0, 1, api.OK},
		{0, -1, 0, api.ErrZero},
		{0, -8191, 0, api.ErrZero},
		{0, -8190, 0, api.ErrZero},
		{0, 1, 0, api.OK},
		{0, 2, 0, api.OK},
		{0, 8190, 0, api.OK},
		{0, 8191, 0, api.OK},
		{0, 16382, 0, api.OK},
		{1, 0, 1, api.OK},
		{8191, 0, 1, api.OK},
		{8191, 1, 8191, api.OK},
		{3, 2, 5, api.OK},
		{2, 12, 4096, api.OK},
		{2, 13, 27, api.OK},
		{2, -1, 4109, api.OK},
		{2, 8190, 4109, api.OK},
		{2, 8191, 1, api.OK},
		{2, 8192, 2, api.OK},
		{2, -8191, 1, api.OK},
		{2, -8190, 2, api.OK},
		{2, -8192, 4109, api.OK},
	} {
		if got, err := gf.Pow(x.a, x.n); got != x.want || err != x.err {
			t.Errorf("Pow(%d, %d) = %d, %d; want %d, %d", x.a, x.n, got, err, x.want, x.err)
		}
	}
}

// P2.2: products that are counted out one by one, up and down, of some elements.
func TestPowCountedOut(t *testing.T) {
	for _, a := range []int{1, 2, 3, 27, 4096, 4109, 8190, 8191} {
		inv, _ := gf.Inv(a)
		up, down := 1, 1
		for n := range 8400 {
			if got := pow(t, a, n); got != up {
				t.Fatalf("Pow(%d, %d) = %d; want %d", a, n, got, up)
			}
			if got := pow(t, a, -n); got != down {
				t.Fatalf("Pow(%d, %d) = %d; want %d", a, -n, got, down)
			}
			up, down = long(up, a), long(down, inv)
		}
	}
}

// P2.2, R1: powers far out end, and are those of what is left of whole rounds of 8191.
func TestPowFarOut(t *testing.T) {
	for _, n := range far {
		left := ((n % 8191) + 8191) % 8191
		for _, a := range []int{1, 2, 3, 4096, 8191} {
			if got, want := pow(t, a, n), pow(t, a, left); got != want {
				t.Errorf("Pow(%d, %d) = %d; want %d", a, n, got, want)
			}
			if got := mul(t, pow(t, a, n), pow(t, a, -(n+1))); got != pow(t, a, -1) {
				t.Errorf("Pow(%d, %d) and Pow(%d, %d): product %d", a, n, a, -(n + 1), got)
			}
		}
		if got := gf.Exp(n); got != pow(t, 2, left) {
			t.Errorf("Exp(%d) = %d; want %d", n, got, pow(t, 2, left))
		}
		got, err := gf.Pow(0, n)
		if n > 0 && (got != 0 || err != api.OK) || n < 0 && (got != 0 || err != api.ErrZero) {
			t.Errorf("Pow(0, %d) = %d, %d", n, got, err)
		}
	}
}

// P2.2: the chapter's examples, and edges.
func TestExp(t *testing.T) {
	for _, x := range []struct{ n, want int }{
		{13, 27}, {-1, 4109}, {0, 1}, {1, 2}, {12, 4096}, {14, 54},
		{8190, 4109}, {8191, 1}, {8192, 2}, {-8190, 2}, {-8191, 1}, {-8192, 4109},
	} {
		if got := gf.Exp(x.n); got != x.want {
			t.Errorf("Exp(%d) = %d; want %d", x.n, got, x.want)
		}
	}
}

// P2.2: the chapter's example, and edges.
func TestLog(t *testing.T) {
	for _, x := range []struct {
		a, want int
		err     api.Errno
	}{
		{27, 13, api.OK}, {1, 0, api.OK}, {2, 1, api.OK}, {4096, 12, api.OK}, {54, 14, api.OK}, {4109, 8190, api.OK},
		{0, 0, api.ErrZero},
	} {
		if got, err := gf.Log(x.a); got != x.want || err != x.err {
			t.Errorf("Log(%d) = %d, %d; want %d, %d", x.a, got, err, x.want, x.err)
		}
	}
}

// P2.2, P2.3: w's powers from 0 to 8190 are all elements but 0, each once; Log tells which; beyond them they come again.
func TestPowersOfW(t *testing.T) {
	met := map[int]bool{}
	want := 1
	for n := range api.Order {
		got := gf.Exp(n)
		if got != want || got < 1 || got >= api.Field || met[got] {
			t.Fatalf("Exp(%d) = %d; want %d, met before: %v", n, got, want, met[got])
		}
		met[got] = true
		if back, err := gf.Log(got); back != n || err != api.OK {
			t.Fatalf("Log(%d) = %d, %d; want %d", got, back, err, n)
		}
		if gf.Exp(n+api.Order) != got || gf.Exp(n-api.Order) != got || pow(t, 2, n) != got {
			t.Fatalf("Exp(%d), Exp(%d), Pow(2, %d) are not %d", n+api.Order, n-api.Order, n, got)
		}
		want = long(want, 2)
	}
	if len(met) != api.Order {
		t.Errorf("%d powers", len(met))
	}
}

// P2.3: no order, no grouping, sums of products, squares of sums; and powers by logarithms.
func TestFieldLaws(t *testing.T) {
	source := rand.New(rand.NewSource(23))
	for range 40000 {
		a, b, c := source.Intn(api.Field), source.Intn(api.Field), source.Intn(api.Field)
		if mul(t, a, b) != mul(t, b, a) {
			t.Fatalf("%d, %d: the order", a, b)
		}
		if mul(t, mul(t, a, b), c) != mul(t, a, mul(t, b, c)) {
			t.Fatalf("%d, %d, %d: the grouping", a, b, c)
		}
		if mul(t, a^b, c) != mul(t, a, c)^mul(t, b, c) {
			t.Fatalf("%d, %d, %d: the sum", a, b, c)
		}
		if pow(t, a^b, 2) != pow(t, a, 2)^pow(t, b, 2) || pow(t, a, 2) != mul(t, a, a) {
			t.Fatalf("%d, %d: the squares", a, b)
		}
		if mul(t, a, b) == 0 && a != 0 && b != 0 {
			t.Fatalf("Mul(%d, %d) = 0", a, b)
		}
	}
	for range 300 {
		a, b := 1+source.Intn(api.Order), 1+source.Intn(api.Order)
		m, _ := gf.Log(a)
		n, _ := gf.Log(b)
		if gf.Exp(m+n) != mul(t, a, b) || gf.Exp(m-n) != mul(t, a, pow(t, b, -1)) {
			t.Fatalf("%d, %d: the logarithms %d, %d", a, b, m, n)
		}
	}
}
