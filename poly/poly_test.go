package poly_test

import (
	"math"
	"math/rand"
	"slices"
	"testing"

	"casemate/api"
	"casemate/gf"
	"casemate/poly"
)

// Numbers that are no elements: next to the elements, and at the ends of the numbers.
var outside = []int{-1, -2, -8191, -8192, 8192, 8193, 16384, 1 << 32, 1<<32 + 1, math.MinInt, math.MinInt + 1, math.MaxInt, math.MaxInt - 1, math.MinInt32, math.MaxInt32}

// fill is what the spare room of a list holds in these tests: no element, so that whoever reads it answers an error.
const fill = -77

// roomy gives a list of the same elements in a larger array, and that array, so that a test sees whether the spare room was written into.
func roomy(list []int) (front []int, whole []int) {
	whole = slices.Repeat([]int{fill}, len(list)+8)
	copy(whole, list)
	return whole[:len(list)], whole
}

// untouched: does the array still hold the list, and the fill behind it?
func untouched(whole []int, list []int) bool {
	return slices.Equal(whole[:len(list)], list) && slices.Equal(whole[len(list):], slices.Repeat([]int{fill}, 8))
}

// some makes a list of n elements; of ten coefficients some three are 0, at its end too.
func some(source *rand.Rand, n int) []int {
	p := make([]int, n)
	for i := range p {
		if source.Intn(10) > 2 {
			p[i] = source.Intn(api.Field)
		}
	}
	return p
}

// cut takes the noughts off the end.
func cut(p []int) []int {
	for len(p) > 0 && p[len(p)-1] == 0 {
		p = p[:len(p)-1]
	}
	return p
}

// times is the product of two elements.
func times(t *testing.T, a, b int) int {
	t.Helper()
	c, err := gf.Mul(a, b)
	if err != api.OK {
		t.Fatalf("gf.Mul(%d, %d): %d", a, b, err)
	}
	return c
}

// long is the product by the words of the chapter: each coefficient of the one with each of the other.
func long(t *testing.T, p, q []int) []int {
	t.Helper()
	out := make([]int, len(p)+len(q))
	for i, a := range p {
		for j, b := range q {
			out[i+j] ^= times(t, a, b)
		}
	}
	return cut(out)
}

// normal fails if the list has what is no element, or a 0 at its end.
func normal(t *testing.T, p []int) {
	t.Helper()
	for _, a := range p {
		if a < 0 || a >= api.Field {
			t.Fatalf("%d is no element: %v", a, p)
		}
	}
	if len(p) > 0 && p[len(p)-1] == 0 {
		t.Fatalf("a list that is not normal: %v", p)
	}
}

// add, mul, derive, div and eval are the calls where no error may come.
func add(t *testing.T, p, q []int) []int {
	t.Helper()
	out, err := poly.Add(p, q)
	if err != api.OK {
		t.Fatalf("Add(%v, %v): %d", p, q, err)
	}
	normal(t, out)
	return out
}

func mul(t *testing.T, p, q []int) []int {
	t.Helper()
	out, err := poly.Mul(p, q)
	if err != api.OK {
		t.Fatalf("Mul(%v, %v): %d", p, q, err)
	}
	normal(t, out)
	return out
}

func derive(t *testing.T, p []int) []int {
	t.Helper()
	out, err := poly.Derive(p)
	if err != api.OK {
		t.Fatalf("Derive(%v): %d", p, err)
	}
	normal(t, out)
	return out
}

func div(t *testing.T, p, q []int) ([]int, []int) {
	t.Helper()
	a, b, err := poly.Div(p, q)
	if err != api.OK {
		t.Fatalf("Div(%v, %v): %d", p, q, err)
	}
	normal(t, a)
	normal(t, b)
	return a, b
}

func eval(t *testing.T, p []int, x int) int {
	t.Helper()
	v, err := poly.Eval(p, x)
	if err != api.OK || v < 0 || v >= api.Field {
		t.Fatalf("Eval(%v, %d) = %d, %d", p, x, v, err)
	}
	return v
}

// P3.1: the chapter's examples, and edges.
func TestNorm(t *testing.T) {
	for _, x := range []struct {
		p, want []int
		err     api.Errno
	}{
		{[]int{1, 2, 0}, []int{1, 2}, api.OK},
		{[]int{0, 0}, nil, api.OK},
		{[]int{1, 8192}, nil, api.ErrArg},
		{nil, nil, api.OK},
		{[]int{}, nil, api.OK},
		{[]int{0}, nil, api.OK},
		{[]int{1}, []int{1}, api.OK},
		{[]int{8191}, []int{8191}, api.OK},
		{[]int{0, 0, 3}, []int{0, 0, 3}, api.OK},
		{[]int{0, 3, 0, 0, 0}, []int{0, 3}, api.OK},
		{[]int{5, 0, 8191, 0, 6, 0}, []int{5, 0, 8191, 0, 6}, api.OK},
		{[]int{8192}, nil, api.ErrArg},
		{[]int{-1, 1}, nil, api.ErrArg},
		{[]int{1, 0, -1}, nil, api.ErrArg},
	} {
		if got, err := poly.Norm(x.p); !slices.Equal(got, x.want) || err != x.err {
			t.Errorf("Norm(%v) = %v, %d; want %v, %d", x.p, got, err, x.want, x.err)
		}
	}
}

// P3.1: the noughts at the end go, and nothing else; what is normal stays as it is.
func TestNormTakesNoughtsAlone(t *testing.T) {
	source := rand.New(rand.NewSource(311))
	for round := range 300 {
		p := some(source, round%20)
		want := cut(p)
		for n := range 4 {
			got, err := poly.Norm(append(slices.Clone(p), make([]int, n)...))
			if !slices.Equal(got, want) || err != api.OK {
				t.Fatalf("Norm(%v and %d noughts) = %v, %d", p, n, got, err)
			}
		}
	}
}

// P3.1: the chapter's example, and edges.
func TestAdd(t *testing.T) {
	for _, x := range []struct{ p, q, want []int }{
		{[]int{1, 1}, []int{0, 1}, []int{1}},
		{nil, nil, nil},
		{[]int{}, []int{0, 0}, nil},
		{[]int{1, 2, 3}, nil, []int{1, 2, 3}},
		{nil, []int{1, 2, 3}, []int{1, 2, 3}},
		{[]int{1, 2, 3, 0}, nil, []int{1, 2, 3}},
		{[]int{1, 2, 3}, []int{1, 2, 3}, nil},
		{[]int{1, 2, 3}, []int{1, 2, 3, 0, 0}, nil},
		{[]int{1, 2, 3}, []int{0, 2, 3}, []int{1}},
		{[]int{3}, []int{5, 0, 7}, []int{6, 0, 7}},
		{[]int{8191, 8191}, []int{1, 4096, 8191}, []int{8190, 4095, 8191}},
	} {
		if got, err := poly.Add(x.p, x.q); !slices.Equal(got, x.want) || err != api.OK {
			t.Errorf("Add(%v, %v) = %v, %d; want %v", x.p, x.q, got, err, x.want)
		}
	}
}

// P3.1: the chapter's example, and edges.
func TestMul(t *testing.T) {
	for _, x := range []struct{ p, q, want []int }{
		{[]int{1, 1}, []int{1, 1}, []int{1, 0, 1}},
		{nil, nil, nil},
		{nil, []int{1, 2}, nil},
		{[]int{1, 2}, nil, nil},
		{[]int{0, 0}, []int{1, 2}, nil},
		{[]int{1, 2}, []int{0}, nil},
		{[]int{0}, []int{0, 0, 0}, nil},
		{[]int{1}, []int{5, 6, 7}, []int{5, 6, 7}},
		{[]int{5, 6, 7, 0}, []int{1, 0}, []int{5, 6, 7}},
		{[]int{0, 1}, []int{5, 6, 7}, []int{0, 5, 6, 7}},
		{[]int{0, 0, 1, 0, 0}, []int{0, 3, 0}, []int{0, 0, 0, 3}},
		{[]int{2}, []int{4096, 3}, []int{27, 6}},
		{[]int{3, 1}, []int{3, 1}, []int{5, 0, 1}},
		{[]int{1, 2, 4}, []int{3, 1}, []int{3, 7, 14, 4}},
	} {
		if got, err := poly.Mul(x.p, x.q); !slices.Equal(got, x.want) || err != api.OK {
			t.Errorf("Mul(%v, %v) = %v, %d; want %v", x.p, x.q, got, err, x.want)
		}
	}
}

// P3.1: sums place by place and products at length, of lists of all lengths side by side.
func TestAddAndMulAtLength(t *testing.T) {
	source := rand.New(rand.NewSource(312))
	for m := range 16 {
		for n := range 16 {
			p, q := some(source, m), some(source, n)
			sum := make([]int, max(m, n))
			copy(sum, p)
			for i, c := range q {
				sum[i] ^= c
			}
			if got := add(t, p, q); !slices.Equal(got, cut(sum)) {
				t.Fatalf("Add(%v, %v) = %v; want %v", p, q, got, cut(sum))
			}
			if got, want := mul(t, p, q), long(t, p, q); !slices.Equal(got, want) {
				t.Fatalf("Mul(%v, %v) = %v; want %v", p, q, got, want)
			}
		}
	}
}

// P3.1, R1: the degrees of a product's factors sum up to its own; long lists too, and noughts at the end beyond counting out.
func TestMulLong(t *testing.T) {
	source := rand.New(rand.NewSource(313))
	p, q := append(some(source, 600), 8191), append(some(source, 300), 2)
	got := mul(t, append(slices.Clone(p), make([]int, 9)...), q)
	if len(got) != 901 || !slices.Equal(got, long(t, p, q)) {
		t.Errorf("a product of 601 and 301 coefficients has %d, or other ones", len(got))
	}
	noughts := make([]int, api.MaxData)
	if got := mul(t, append(slices.Clone(q), noughts...), append([]int{0, 1}, noughts...)); !slices.Equal(got, append([]int{0}, q...)) {
		t.Errorf("a product of 301 and 2 coefficients, with noughts behind them, has %d, or other ones", len(got))
	}
}

// P3.1: the chapter's example, and edges.
func TestDerive(t *testing.T) {
	for _, x := range []struct{ p, want []int }{
		{[]int{5, 6, 7, 8}, []int{6, 0, 8}},
		{nil, nil},
		{[]int{}, nil},
		{[]int{5}, nil},
		{[]int{0, 0}, nil},
		{[]int{5, 6}, []int{6}},
		{[]int{0, 8191}, []int{8191}},
		{[]int{5, 0, 7}, nil},
		{[]int{5, 6, 7}, []int{6}},
		{[]int{5, 6, 7, 0}, []int{6}},
		{[]int{5, 6, 7, 8, 9}, []int{6, 0, 8}},
		{[]int{5, 0, 7, 8, 9, 0}, []int{0, 0, 8}},
		{[]int{5, 6, 7, 8, 9, 10, 11, 12}, []int{6, 0, 8, 0, 10, 0, 12}},
	} {
		if got, err := poly.Derive(x.p); !slices.Equal(got, x.want) || err != api.OK {
			t.Errorf("Derive(%v) = %v, %d; want %v", x.p, got, err, x.want)
		}
	}
}

// P3.1: each coefficient i + 1 times, which is none or once, as two of one element sum up to 0.
func TestDeriveCountedOut(t *testing.T) {
	source := rand.New(rand.NewSource(314))
	for n := range 40 {
		p := some(source, n)
		want := make([]int, n)
		for i := 1; i < n; i++ {
			for range i {
				want[i-1] ^= p[i]
			}
		}
		if got := derive(t, p); !slices.Equal(got, cut(want)) {
			t.Errorf("Derive(%v) = %v; want %v", p, got, cut(want))
		}
	}
}

// P3.2: the chapter's examples, and edges.
func TestDiv(t *testing.T) {
	for _, x := range []struct {
		p, q, a, b []int
		err        api.Errno
	}{
		{[]int{1, 0, 1}, []int{1, 1}, []int{1, 1}, nil, api.OK},
		{[]int{1}, nil, nil, nil, api.ErrZero},
		{nil, nil, nil, nil, api.ErrZero},
		{nil, []int{0, 0}, nil, nil, api.ErrZero},
		{[]int{1}, []int{0}, nil, nil, api.ErrZero},
		{[]int{1, 2, 3}, []int{0, 0, 0, 0}, nil, nil, api.ErrZero},
		{nil, []int{1}, nil, nil, api.OK},
		{[]int{0, 0}, []int{5, 6}, nil, nil, api.OK},
		{[]int{1, 0, 1, 0}, []int{1, 1, 0, 0, 0}, []int{1, 1}, nil, api.OK},
		{[]int{5, 6, 7}, []int{1}, []int{5, 6, 7}, nil, api.OK},
		{[]int{5, 6, 7}, []int{0, 1}, []int{6, 7}, []int{5}, api.OK},
		{[]int{5, 6, 7}, []int{0, 0, 1}, []int{7}, []int{5, 6}, api.OK},
		{[]int{5, 6, 7}, []int{0, 0, 0, 1}, nil, []int{5, 6, 7}, api.OK},
		{[]int{5, 6, 0, 0, 0}, []int{0, 0, 1}, nil, []int{5, 6}, api.OK},
		{[]int{5, 6, 7}, []int{5, 6, 7}, []int{1}, nil, api.OK},
		{[]int{27, 6}, []int{2}, []int{4096, 3}, nil, api.OK},
		{[]int{5, 0, 1}, []int{3, 1}, []int{3, 1}, nil, api.OK},
		{[]int{4, 0, 1}, []int{3, 1}, []int{3, 1}, []int{1}, api.OK},
		{[]int{0, 0, 0, 5, 1}, []int{0, 0, 0, 1, 0}, []int{5, 1}, nil, api.OK},
		{[]int{1, 0, 0, 0, 1}, []int{0, 1, 0, 1}, []int{0, 1}, []int{1, 0, 1}, api.OK},
	} {
		a, b, err := poly.Div(x.p, x.q)
		if !slices.Equal(a, x.a) || !slices.Equal(b, x.b) || err != x.err {
			t.Errorf("Div(%v, %v) = %v, %v, %d; want %v, %v, %d", x.p, x.q, a, b, err, x.a, x.b, x.err)
		}
	}
}

// P3.2: q times a and b sum up to p, b is shorter than q; and what was made of a quotient and a rest comes apart into just these.
func TestDivAndBack(t *testing.T) {
	source := rand.New(rand.NewSource(321))
	for round := range 2000 {
		p, q := some(source, source.Intn(20)), some(source, 1+source.Intn(10))
		if len(cut(q)) == 0 {
			q = append(q, 1+round%api.Order)
		}
		a, b := div(t, p, q)
		if got := add(t, long(t, q, a), b); !slices.Equal(got, cut(p)) || len(b) >= len(cut(q)) {
			t.Fatalf("Div(%v, %v) = %v, %v", p, q, a, b)
		}
		rest := cut(some(source, len(cut(q))-1))
		whole := add(t, long(t, q, p), rest)
		if a, b := div(t, whole, q); !slices.Equal(a, cut(p)) || !slices.Equal(b, rest) {
			t.Fatalf("Div(%v, %v) = %v, %v; want %v, %v", whole, q, a, b, cut(p), rest)
		}
	}
}

// P3.2: by an element each coefficient is divided alone; by x plus an element the rest is the value there.
func TestDivByLittle(t *testing.T) {
	source := rand.New(rand.NewSource(322))
	for range 300 {
		p, x := some(source, source.Intn(30)), 1+source.Intn(api.Order)
		inverse, _ := gf.Inv(x)
		if a, b := div(t, p, []int{x}); !slices.Equal(a, mul(t, p, []int{inverse})) || len(b) != 0 {
			t.Fatalf("Div(%v, %d) = %v, %v", p, x, a, b)
		}
		if _, b := div(t, p, []int{x, 1}); !slices.Equal(b, cut([]int{eval(t, p, x)})) {
			t.Fatalf("Div(%v, %d 1): the rest %v", p, x, b)
		}
	}
}

// P3.2: the chapter's example, and edges: the nought's power 0 is 1.
func TestEval(t *testing.T) {
	for _, x := range []struct {
		p       []int
		x, want int
	}{
		{[]int{1, 0, 1}, 2, 5},
		{nil, 0, 0},
		{nil, 8191, 0},
		{[]int{0, 0, 0}, 7, 0},
		{[]int{5}, 0, 5},
		{[]int{5}, 8191, 5},
		{[]int{5, 6, 7}, 0, 5},
		{[]int{5, 6, 7}, 1, 4},
		{[]int{0, 1}, 8191, 8191},
		{[]int{0, 1, 0, 0}, 4096, 4096},
		{[]int{0, 4096}, 2, 27},
		{[]int{0, 0, 0, 0, 0, 0, 0, 0, 0, 0, 0, 0, 0, 1}, 2, 27},
		{[]int{27, 0, 0, 0, 0, 0, 0, 0, 0, 0, 0, 0, 0, 1}, 2, 0},
	} {
		if got, err := poly.Eval(x.p, x.x); got != x.want || err != api.OK {
			t.Errorf("Eval(%v, %d) = %d, %d; want %d", x.p, x.x, got, err, x.want)
		}
	}
}

// P3.2: the sum of all coefficients, each times a power that layer 2 tells.
func TestEvalBySums(t *testing.T) {
	source := rand.New(rand.NewSource(323))
	for round := range 500 {
		p := some(source, round%40)
		for _, x := range []int{0, 1, 2, 8191, source.Intn(api.Field)} {
			want := 0
			for i, c := range p {
				power, err := gf.Pow(x, i)
				if err != api.OK {
					t.Fatalf("gf.Pow(%d, %d): %d", x, i, err)
				}
				want ^= times(t, c, power)
			}
			if got := eval(t, p, x); got != want {
				t.Fatalf("Eval(%v, %d) = %d; want %d", p, x, got, want)
			}
		}
	}
}

// refused fails unless each call that has the list p, on either side of q, answers ErrArg and nothing else.
func refused(t *testing.T, p, q []int) {
	t.Helper()
	if got, err := poly.Norm(p); len(got) != 0 || err != api.ErrArg {
		t.Errorf("Norm(%v) = %v, %d; want ErrArg", p, got, err)
	}
	if got, err := poly.Derive(p); len(got) != 0 || err != api.ErrArg {
		t.Errorf("Derive(%v) = %v, %d; want ErrArg", p, got, err)
	}
	for _, x := range []int{0, 1, 8191, 8192, -1} {
		if got, err := poly.Eval(p, x); got != 0 || err != api.ErrArg {
			t.Errorf("Eval(%v, %d) = %d, %d; want ErrArg", p, x, got, err)
		}
	}
	for _, pair := range [][2][]int{{p, q}, {q, p}, {p, p}} {
		if got, err := poly.Add(pair[0], pair[1]); len(got) != 0 || err != api.ErrArg {
			t.Errorf("Add(%v) = %v, %d; want ErrArg", pair, got, err)
		}
		if got, err := poly.Mul(pair[0], pair[1]); len(got) != 0 || err != api.ErrArg {
			t.Errorf("Mul(%v) = %v, %d; want ErrArg", pair, got, err)
		}
		if a, b, err := poly.Div(pair[0], pair[1]); len(a) != 0 || len(b) != 0 || err != api.ErrArg {
			t.Errorf("Div(%v) = %v, %v, %d; want ErrArg", pair, a, b, err)
		}
	}
}

// P3.1, P3.2, R1: what is no element, wherever in a list it stands, beside each other list: beside the polynomial 0 too, where a division has an error more and a product no term.
func TestNoElement(t *testing.T) {
	for _, x := range outside {
		for _, p := range [][]int{{x}, {x, 1}, {1, x}, {0, x}, {x, 0}, {1, x, 2}, {x, x}, {5, 6, 7, 8, x, 0, 0}} {
			for _, q := range [][]int{nil, {}, {0}, {0, 0}, {1}, {1, 2, 3, 4, 5, 6, 7, 8, 9}} {
				refused(t, p, q)
			}
		}
		for _, p := range [][]int{nil, {}, {0}, {5}, {5, 6, 7}} {
			if got, err := poly.Eval(p, x); got != 0 || err != api.ErrArg {
				t.Errorf("Eval(%v, %d) = %d, %d; want ErrArg", p, x, got, err)
			}
		}
	}
}

// answers makes all calls with the two lists and gives the lists that come out.
func answers(p, q []int) [][]int {
	norm, _ := poly.Norm(p)
	sum, _ := poly.Add(p, q)
	product, _ := poly.Mul(p, q)
	a, b, _ := poly.Div(p, q)
	derived, _ := poly.Derive(p)
	poly.Eval(p, 3)
	return [][]int{norm, sum, product, a, b, derived}
}

// R2: nothing that is handed in is written into, nor its spare room; answers are new memory, each its own, and the same again when the same is asked.
func TestListsAreLeftAlone(t *testing.T) {
	lists := [][]int{nil, {0}, {1}, {5, 6, 7, 8}, {5, 6, 7, 0, 0}, {1, 2, 3, 4, 5, 6, 7}, {0, 0, 1}, {1, 8192}}
	for _, x := range lists {
		for _, y := range lists {
			p, wholeP := roomy(x)
			q, wholeQ := roomy(y)
			var want [][]int
			for _, out := range answers(p, q) {
				want = append(want, slices.Clone(out))
			}
			for i, out := range append(answers(p, q), answers(p, q)...) {
				if !slices.Equal(out, want[i%len(want)]) {
					t.Errorf("%v, %v: the answer %d shares memory with one ahead of it: %v; want %v", x, y, i, out, want[i%len(want)])
				}
				for k := range out[:cap(out)] {
					out[:cap(out)][k] = 4321
				}
			}
			if !untouched(wholeP, x) || !untouched(wholeQ, y) {
				t.Errorf("%v, %v were changed: %v, %v", x, y, wholeP, wholeQ)
			}
			for i, again := range answers(p, q) {
				if !slices.Equal(again, want[i]) {
					t.Errorf("%v, %v: the answer %d was %v, then %v", x, y, i, want[i], again)
				}
			}
		}
	}
}

// R2, 7: the lists of one answer share no memory, and one list may be handed in on both sides, or two that overlap.
func TestListsThatShareMemory(t *testing.T) {
	whole := []int{5, 6, 7, 8, 9, 10, 11}
	a, b := div(t, whole, whole[:3])
	keep := slices.Clone(b)
	for i := range a[:cap(a)] {
		a[:cap(a)][i] = 0
	}
	if !slices.Equal(b, keep) {
		t.Errorf("the quotient and the rest share memory: %v, %v", b, keep)
	}
	if a, b := div(t, whole, whole); !slices.Equal(a, []int{1}) || len(b) != 0 {
		t.Errorf("Div of a list by itself: %v, %v", a, b)
	}
	if got := add(t, whole, whole); len(got) != 0 {
		t.Errorf("Add of a list and itself: %v", got)
	}
	if got := mul(t, whole[:4], whole[2:]); !slices.Equal(got, long(t, []int{5, 6, 7, 8}, []int{7, 8, 9, 10, 11})) {
		t.Errorf("Mul of two lists that overlap: %v", got)
	}
	if !slices.Equal(whole, []int{5, 6, 7, 8, 9, 10, 11}) {
		t.Errorf("what was handed in was changed: %v", whole)
	}
}

// P3.3: sums and products hang on no order and no grouping, and a product of a sum is the sum of the products.
func TestOrderAndGrouping(t *testing.T) {
	source := rand.New(rand.NewSource(331))
	for range 800 {
		p, q, r := some(source, source.Intn(12)), some(source, source.Intn(12)), some(source, source.Intn(12))
		if !slices.Equal(add(t, p, q), add(t, q, p)) || !slices.Equal(mul(t, p, q), mul(t, q, p)) {
			t.Fatalf("%v, %v: the order", p, q)
		}
		if !slices.Equal(add(t, add(t, p, q), r), add(t, p, add(t, q, r))) {
			t.Fatalf("%v, %v, %v: the grouping of a sum", p, q, r)
		}
		if !slices.Equal(mul(t, mul(t, p, q), r), mul(t, p, mul(t, q, r))) {
			t.Fatalf("%v, %v, %v: the grouping of a product", p, q, r)
		}
		if !slices.Equal(mul(t, add(t, p, q), r), add(t, mul(t, p, r), mul(t, q, r))) {
			t.Fatalf("%v, %v, %v: the product of a sum", p, q, r)
		}
	}
}

// P3.3: the value of a sum or a product is the sum or the product of the values.
func TestValuesOfSumsAndProducts(t *testing.T) {
	source := rand.New(rand.NewSource(332))
	for range 500 {
		p, q := some(source, source.Intn(15)), some(source, source.Intn(15))
		for _, x := range []int{0, 1, 2, 4096, 8191, source.Intn(api.Field)} {
			if eval(t, add(t, p, q), x) != eval(t, p, x)^eval(t, q, x) {
				t.Fatalf("%v, %v at %d: the sum", p, q, x)
			}
			if eval(t, mul(t, p, q), x) != times(t, eval(t, p, x), eval(t, q, x)) {
				t.Fatalf("%v, %v at %d: the product", p, q, x)
			}
		}
	}
}

// P3.3: the derivative of a sum and of a product; that of a square is 0, and so is a derivative's.
func TestDerivativesOfSumsAndProducts(t *testing.T) {
	source := rand.New(rand.NewSource(333))
	for range 800 {
		p, q := some(source, source.Intn(15)), some(source, source.Intn(15))
		if !slices.Equal(derive(t, add(t, p, q)), add(t, derive(t, p), derive(t, q))) {
			t.Fatalf("%v, %v: the sum", p, q)
		}
		want := add(t, mul(t, derive(t, p), q), mul(t, p, derive(t, q)))
		if got := derive(t, mul(t, p, q)); !slices.Equal(got, want) {
			t.Fatalf("%v, %v: the derivative of the product is %v; want %v", p, q, got, want)
		}
		if len(derive(t, mul(t, p, p))) != 0 || len(derive(t, derive(t, p))) != 0 {
			t.Fatalf("%v: the derivative of its square, or of its derivative", p)
		}
	}
}
