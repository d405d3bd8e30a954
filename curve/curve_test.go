package curve_test

import (
	"crypto/ed25519"
	"crypto/sha512"
	"math/big"
	"math/rand"
	"slices"
	"testing"

	"casemate/api"
	"casemate/curve"
)

// element is one of layer 16: 32 bytes, the lowest first.
type element = [32]byte

// nowhere is what stands beside every error; it is no point of the curve.
var nowhere api.Point

// prime is 2^255 - 19.
func prime() *big.Int {
	two := new(big.Int).Lsh(big.NewInt(1), 255)
	return two.Sub(two, big.NewInt(19))
}

// order is that of the base: 2^252 + 27742317777372353535851937790883648493.
func order() *big.Int {
	more, _ := new(big.Int).SetString("27742317777372353535851937790883648493", 10)
	return more.Add(more, new(big.Int).Lsh(big.NewInt(1), 252))
}

// all is how many points the curve has.
func all() *big.Int { return new(big.Int).Lsh(order(), 3) }

// value is the number that bytes stand for.
func value(b []byte) *big.Int {
	b = slices.Clone(b)
	slices.Reverse(b)
	return new(big.Int).SetBytes(b)
}

// bytesOf are the bytes of a number, without noughts at the end.
func bytesOf(v *big.Int) []byte {
	b := v.Bytes()
	slices.Reverse(b)
	return b
}

// laid are the 32 bytes of a number below 2^256.
func laid(v *big.Int) element {
	var out element
	copy(out[:], bytesOf(v))
	return out
}

// left are the bytes of what is left of a number by p.
func left(v *big.Int) element { return laid(new(big.Int).Mod(v, prime())) }

// small is the element of a small number; of one below 0 it is that of p less it.
func small(n int64) element { return left(big.NewInt(n)) }

// offPrime is p and n.
func offPrime(n int64) element { return laid(new(big.Int).Add(prime(), big.NewInt(n))) }

// raised is an element and p: the same number, taken round, but no element.
func raised(a element) element { return laid(new(big.Int).Add(value(a[:]), prime())) }

// opposite is p less an element; of 0 it is 0.
func opposite(a element) element { return left(new(big.Int).Neg(value(a[:]))) }

// product is that of numbers, taken round.
func product(of ...*big.Int) *big.Int {
	out := big.NewInt(1)
	for _, x := range of {
		out.Mul(out, x)
		out.Mod(out, prime())
	}
	return out
}

// quotient is a divided by b, taken round; b is not 0.
func quotient(t *testing.T, a, b *big.Int) *big.Int {
	t.Helper()
	over := new(big.Int).ModInverse(b, prime())
	if over == nil {
		t.Fatalf("divided by %d", b)
	}
	return product(a, over)
}

// dee is the d of the chapter: its product with 121666 is p less 121665.
func dee(t *testing.T) *big.Int { return quotient(t, big.NewInt(-121665), big.NewInt(121666)) }

// isOn is On by the chapter's words and the library's numbers.
func isOn(t *testing.T, p api.Point) bool {
	x, y := value(p.X[:]), value(p.Y[:])
	if x.Cmp(prime()) >= 0 || y.Cmp(prime()) >= 0 {
		return false
	}
	xx, yy := product(x, x), product(y, y)
	one := product(dee(t), xx, yy)
	return left(new(big.Int).Sub(yy, xx)) == left(one.Add(one, big.NewInt(1)))
}

// sumOf is Add by the chapter's words and the library's numbers.
func sumOf(t *testing.T, p, q api.Point) api.Point {
	t.Helper()
	px, py, qx, qy := value(p.X[:]), value(p.Y[:]), value(q.X[:]), value(q.Y[:])
	turn, one := product(dee(t), px, qx, py, qy), big.NewInt(1)
	x := quotient(t, new(big.Int).Add(product(px, qy), product(py, qx)), new(big.Int).Add(one, turn))
	y := quotient(t, new(big.Int).Add(product(py, qy), product(px, qx)), new(big.Int).Sub(one, turn))
	return api.Point{X: left(x), Y: left(y)}
}

// timesOf is Scale by sums of the library's numbers.
func timesOf(t *testing.T, n *big.Int, p api.Point) api.Point {
	out := api.Point{Y: element{1}}
	for i := n.BitLen() - 1; i >= 0; i-- {
		out = sumOf(t, out, out)
		if n.Bit(i) == 1 {
			out = sumOf(t, out, p)
		}
	}
	return out
}

// pointOf is Unpack by the chapter's words and the library's numbers.
func pointOf(t *testing.T, b element) (api.Point, api.Errno) {
	y, bit := b, uint(b[31]>>7)
	y[31] &= 0x7f
	v := value(y[:])
	if v.Cmp(prime()) >= 0 {
		return nowhere, api.ErrPoint
	}
	yy := product(v, v)
	over := product(dee(t), yy)
	over.Add(over, big.NewInt(1))
	x := new(big.Int).ModSqrt(quotient(t, new(big.Int).Sub(yy, big.NewInt(1)), over), prime())
	if x == nil || x.Sign() == 0 && bit == 1 {
		return nowhere, api.ErrPoint
	}
	if x.Bit(0) != bit {
		x.Sub(prime(), x)
	}
	return api.Point{X: laid(x), Y: y}, api.OK
}

// is holds a point against the one that it must be.
func is(t *testing.T, what string, got, want api.Point) {
	t.Helper()
	if got != want {
		t.Errorf("%s = %x; want %x", what, got, want)
	}
}

// add is the sum of points.
func add(t *testing.T, p, q api.Point) api.Point {
	t.Helper()
	got, err := curve.Add(p, q)
	if err != api.OK || !curve.On(got) {
		t.Fatalf("Add(%x, %x) = %x, %d; want a point", p, q, got, err)
	}
	return got
}

// neg is Neg of a point.
func neg(t *testing.T, p api.Point) api.Point {
	t.Helper()
	got, err := curve.Neg(p)
	if err != api.OK || !curve.On(got) {
		t.Fatalf("Neg(%x) = %x, %d; want a point", p, got, err)
	}
	return got
}

// scale is Scale of a point.
func scale(t *testing.T, n []byte, p api.Point) api.Point {
	t.Helper()
	got, err := curve.Scale(n, p)
	if err != api.OK || !curve.On(got) {
		t.Fatalf("Scale(%x, %x) = %x, %d; want a point", n, p, got, err)
	}
	return got
}

// pack is Pack of a point.
func pack(t *testing.T, p api.Point) element {
	t.Helper()
	got, err := curve.Pack(p)
	if err != api.OK {
		t.Fatalf("Pack(%x) = %x, %d", p, got, err)
	}
	return got
}

// nextTold is the first point that is told of bytes or of those a little above them.
func nextTold(t *testing.T, b element) api.Point {
	t.Helper()
	for range 256 {
		if p, err := curve.Unpack(b); err == api.OK {
			return p
		}
		b[0]++
	}
	t.Fatalf("no point from %x on", b)
	return nowhere
}

// eighth is a point whose eighth multiple is Zero() and whose fourth is not: one's multiples are all points that come to Zero() when they are doubled three times.
func eighth(t *testing.T) api.Point {
	t.Helper()
	for y := byte(2); y < 100; y++ {
		p := timesOf(t, order(), nextTold(t, element{y}))
		if timesOf(t, big.NewInt(4), p) != curve.Zero() {
			return p
		}
	}
	t.Fatal("no such point")
	return nowhere
}

// turning are the eight points that come to Zero() when they are doubled three times.
func turning(t *testing.T) []api.Point {
	t.Helper()
	p := eighth(t)
	out := []api.Point{curve.Zero()}
	for range 7 {
		out = append(out, sumOf(t, out[len(out)-1], p))
	}
	return out
}

// somePoints are those of few turns, some multiples of the base, their opposites, and some of any order.
func somePoints(t *testing.T, r *rand.Rand) []api.Point {
	t.Helper()
	out := turning(t)
	b := curve.Base()
	for range 3 {
		out = append(out, b, api.Point{X: opposite(b.X), Y: b.Y}, api.Point{X: b.X, Y: opposite(b.Y)})
		b = sumOf(t, b, b)
	}
	for range 4 {
		var y element
		r.Read(y[:])
		y[31] &= 0xbf
		out = append(out, nextTold(t, y))
	}
	return out
}

// strangers are what is no point of the curve.
func strangers(t *testing.T) []api.Point {
	t.Helper()
	b := curve.Base()
	var most element
	for i := range most {
		most[i] = 0xff
	}
	out := []api.Point{
		{}, {X: small(1), Y: small(1)}, {X: small(1)}, {Y: small(2)}, {X: small(-1), Y: small(-1)}, {X: small(1), Y: small(-1)},
		{X: b.Y, Y: b.X}, {X: b.X, Y: b.X}, {X: b.Y, Y: b.Y}, {X: b.X}, {Y: b.Y}, {X: small(-1), Y: b.Y},
		{X: most, Y: most}, {X: most, Y: small(1)}, {Y: most},
		{X: offPrime(0), Y: small(0)}, {X: offPrime(0), Y: offPrime(0)}, {X: b.X, Y: offPrime(0)}, {X: offPrime(0), Y: b.Y},
	}
	for _, p := range append(turning(t), b, sumOf(t, b, b)) {
		out = append(out, api.Point{X: raised(p.X), Y: p.Y}, api.Point{X: p.X, Y: raised(p.Y)}, api.Point{X: raised(p.X), Y: raised(p.Y)})
	}
	return append(out, nearBase()...)
}

// nearBase is the base with a bit turned, each bit once.
func nearBase() []api.Point {
	var out []api.Point
	for bit := range 256 {
		x, y := curve.Base(), curve.Base()
		x.X[bit/8] ^= 1 << (bit % 8)
		y.Y[bit/8] ^= 1 << (bit % 8)
		out = append(out, x, y)
	}
	return out
}

// P17.1 to P17.3: the chapter's examples.
func TestExamples(t *testing.T) {
	b := curve.Base()
	if !curve.On(b) || !curve.On(api.Point{Y: small(1)}) || curve.On(api.Point{X: small(1), Y: small(1)}) {
		t.Error("On(Base()), On((0, 1)), On((1, 1)): want true, true, false")
	}
	want := element{0x58}
	for i := 1; i < 32; i++ {
		want[i] = 0x66
	}
	if got := pack(t, b); got != want {
		t.Errorf("Pack(Base()) = %x; want %x", got, want)
	}
	is(t, "Scale(0, Base())", scale(t, []byte{0}, b), curve.Zero())
	is(t, "Add(Base(), Neg(Base()))", add(t, b, neg(t, b)), curve.Zero())
}

// P17.1: Zero() is (0, 1); of Base() 5 times y is 4, x is even, and both are elements of the curve.
func TestZeroAndBase(t *testing.T) {
	is(t, "Zero()", curve.Zero(), api.Point{Y: element{1}})
	b := curve.Base()
	if left(product(big.NewInt(5), value(b.Y[:]))) != small(4) || b.X[0]&1 != 0 {
		t.Errorf("Base() = %x", b)
	}
	if !isOn(t, b) || !curve.On(b) || !curve.On(curve.Zero()) {
		t.Error("Base() and Zero() must be on the curve")
	}
	x, _ := new(big.Int).SetString("15112221349535400772501151409588531511454012693041857206046113283949847762202", 10)
	y, _ := new(big.Int).SetString("46316835694926478169428394003475163141307993866256225615783033603165251855960", 10)
	is(t, "Base()", b, api.Point{X: laid(x), Y: laid(y)})
}

// P17.1: On of points, of what is next to them, and of what is none.
func TestOn(t *testing.T) {
	r := rand.New(rand.NewSource(17))
	for _, p := range somePoints(t, r) {
		for _, q := range []api.Point{p, {X: opposite(p.X), Y: p.Y}, {X: p.X, Y: opposite(p.Y)}, {X: opposite(p.X), Y: opposite(p.Y)}} {
			if !curve.On(q) {
				t.Errorf("On(%x) = false", q)
			}
		}
		for _, q := range []api.Point{{X: p.Y, Y: p.X}, {X: p.X, Y: small(7)}, {X: small(7), Y: p.Y}} {
			if curve.On(q) != isOn(t, q) {
				t.Errorf("On(%x) = %v", q, curve.On(q))
			}
		}
	}
	for _, p := range strangers(t) {
		if curve.On(p) || isOn(t, p) {
			t.Errorf("On(%x) = %v", p, curve.On(p))
		}
	}
	for x := int64(-8); x <= 8; x++ {
		for y := int64(-8); y <= 8; y++ {
			if p := (api.Point{X: small(x), Y: small(y)}); curve.On(p) != isOn(t, p) {
				t.Errorf("On(%d, %d) = %v", x, y, curve.On(p))
			}
		}
	}
}

// P17.1, R1: ErrPoint, and noughts beside it, of each call that has a point, whatever stands beside what is none.
func TestStrangers(t *testing.T) {
	b := curve.Base()
	for _, s := range strangers(t) {
		for _, pair := range [][2]api.Point{{s, b}, {b, s}, {s, curve.Zero()}, {curve.Zero(), s}, {s, s}, {s, nowhere}} {
			if got, err := curve.Add(pair[0], pair[1]); got != nowhere || err != api.ErrPoint {
				t.Errorf("Add(%x, %x) = %x, %d; want ErrPoint", pair[0], pair[1], got, err)
			}
		}
		if got, err := curve.Neg(s); got != nowhere || err != api.ErrPoint {
			t.Errorf("Neg(%x) = %x, %d; want ErrPoint", s, got, err)
		}
		for _, n := range [][]byte{nil, {}, {0}, {1}, {2}, {8, 0}} {
			if got, err := curve.Scale(n, s); got != nowhere || err != api.ErrPoint {
				t.Errorf("Scale(%x, %x) = %x, %d; want ErrPoint", n, s, got, err)
			}
		}
		if got, err := curve.Pack(s); got != (element{}) || err != api.ErrPoint {
			t.Errorf("Pack(%x) = %x, %d; want ErrPoint", s, got, err)
		}
	}
}

// P17.2: sums of all pairs of some points, with themselves and their opposites among them, by the chapter's words.
func TestAdd(t *testing.T) {
	r := rand.New(rand.NewSource(171))
	some := somePoints(t, r)
	for _, p := range some {
		for _, q := range some {
			is(t, "Add", add(t, p, q), sumOf(t, p, q))
		}
	}
}

// P17.2: x is taken from 0, y stays; of x 0 it is 0, not p.
func TestNeg(t *testing.T) {
	r := rand.New(rand.NewSource(172))
	for _, p := range somePoints(t, r) {
		is(t, "Neg", neg(t, p), api.Point{X: opposite(p.X), Y: p.Y})
		is(t, "Neg of Neg", neg(t, neg(t, p)), p)
	}
	is(t, "Neg(Zero())", neg(t, curve.Zero()), curve.Zero())
}

// P17.2: the points whose x is 0: (0, p - 1) twice is Zero(), and turns both signs of any other point.
func TestXIsZero(t *testing.T) {
	under := api.Point{Y: small(-1)}
	is(t, "Neg(0, p - 1)", neg(t, under), under)
	is(t, "(0, p - 1) twice", add(t, under, under), curve.Zero())
	is(t, "2 (0, p - 1)", scale(t, []byte{2}, under), curve.Zero())
	is(t, "3 (0, p - 1)", scale(t, []byte{3}, under), under)
	is(t, "2 Zero()", scale(t, []byte{2}, curve.Zero()), curve.Zero())
	is(t, "many Zero()", scale(t, []byte{0xff, 0xff, 0xff}, curve.Zero()), curve.Zero())
	b := curve.Base()
	is(t, "(0, p - 1) + Base()", add(t, under, b), api.Point{X: opposite(b.X), Y: opposite(b.Y)})
}

// P17.2: the points that come to Zero() when they are doubled three times, those whose y is 0 among them: they go round.
func TestTurning(t *testing.T) {
	round := turning(t)
	for i, p := range round {
		for n := range 20 {
			is(t, "n p", scale(t, []byte{byte(n)}, p), round[i*n%8])
		}
		for j, q := range round {
			is(t, "p + q", add(t, p, q), round[(i+j)%8])
		}
	}
	if round[2].Y != (element{}) || round[6].Y != (element{}) || round[4] != (api.Point{Y: small(-1)}) {
		t.Errorf("the quarters are %x, %x, the half %x", round[2], round[6], round[4])
	}
}

// P17.2: Scale by no bytes and by noughts is Zero(), by one the point; noughts at the end count nothing.
func TestScaleEdges(t *testing.T) {
	r := rand.New(rand.NewSource(173))
	for _, p := range somePoints(t, r) {
		for _, n := range [][]byte{nil, {}, {0}, {0, 0, 0}, make([]byte, 33), make([]byte, 200)} {
			is(t, "0 p", scale(t, n, p), curve.Zero())
		}
		for _, n := range [][]byte{{1}, {1, 0}, {1, 0, 0, 0}, append([]byte{1}, make([]byte, 100)...)} {
			is(t, "1 p", scale(t, n, p), p)
		}
		is(t, "513 p", scale(t, []byte{1, 2, 0, 0}, p), scale(t, []byte{1, 2}, p))
	}
}

// P17.2: small multiples are sums of so many.
func TestScaleCounts(t *testing.T) {
	for _, p := range []api.Point{curve.Base(), nextTold(t, element{200}), sumOf(t, curve.Base(), eighth(t))} {
		sum := curve.Zero()
		for n := range 300 {
			is(t, "n p", scale(t, []byte{byte(n), byte(n >> 8)}, p), sum)
			sum = add(t, sum, p)
		}
	}
}

// P17.2: each bit of a number counts twice the one below it, beyond the bytes of an element, too.
func TestScaleBits(t *testing.T) {
	p := sumOf(t, curve.Base(), eighth(t))
	for bit := range 300 {
		n := make([]byte, 38)
		n[bit/8] = 1 << (bit % 8)
		is(t, "2^bit p", scale(t, n, sumOf(t, curve.Base(), eighth(t))), p)
		p = sumOf(t, p, p)
	}
}

// P17.2: any numbers, of any points, by sums as the chapter says them.
func TestScaleAgainstSums(t *testing.T) {
	r := rand.New(rand.NewSource(174))
	for _, p := range somePoints(t, r) {
		for _, size := range []int{1, 2, 7, 31, 32, 33, 64} {
			n := make([]byte, size)
			r.Read(n)
			is(t, "n p", scale(t, n, p), timesOf(t, value(n), p))
		}
	}
}

// P17.2: the base comes round by its order, any point by that of the curve; long rows of bytes count by what is left.
func TestScaleRound(t *testing.T) {
	r := rand.New(rand.NewSource(175))
	b := curve.Base()
	one := big.NewInt(1)
	is(t, "order", scale(t, bytesOf(order()), b), curve.Zero())
	is(t, "order and one", scale(t, bytesOf(new(big.Int).Add(order(), one)), b), b)
	is(t, "order less one", scale(t, bytesOf(new(big.Int).Sub(order(), one)), b), neg(t, b))
	for _, p := range somePoints(t, r) {
		is(t, "all", scale(t, bytesOf(all()), p), curve.Zero())
	}
	for _, size := range []int{65, 500, 3000} {
		n := make([]byte, size)
		r.Read(n)
		is(t, "a long number", scale(t, n, b), scale(t, bytesOf(new(big.Int).Mod(value(n), order())), b))
		for i := range n {
			n[i] = 0xff
		}
		p := nextTold(t, element{77, 31: 0x80})
		is(t, "ones", scale(t, n, p), scale(t, bytesOf(new(big.Int).Mod(value(n), all())), p))
	}
}

// P17.2, P17.3: the library's public keys are multiples of the base, packed.
func TestAgainstLibrary(t *testing.T) {
	r := rand.New(rand.NewSource(176))
	for range 20 {
		seed := make([]byte, ed25519.SeedSize)
		r.Read(seed)
		long := sha512.Sum512(seed)
		n := long[:32]
		n[0] &= 0xf8
		n[31] = n[31]&0x3f | 0x40
		want := element(ed25519.NewKeyFromSeed(seed).Public().(ed25519.PublicKey))
		if got := pack(t, scale(t, n, curve.Base())); got != want {
			t.Errorf("the key of %x = %x; want %x", seed, got, want)
		}
	}
}

// P17.3: the bytes are those of y; the highest bit tells whether x is odd, of points with an even x and with an odd one.
func TestPack(t *testing.T) {
	r := rand.New(rand.NewSource(177))
	odd := 0
	for _, p := range somePoints(t, r) {
		want := p.Y
		want[31] |= p.X[0] & 1 << 7
		odd += int(p.X[0] & 1)
		if got := pack(t, p); got != want {
			t.Errorf("Pack(%x) = %x; want %x", p, got, want)
		}
	}
	if odd == 0 {
		t.Error("no point with an odd x was tried")
	}
	b := curve.Base()
	even, turned := pack(t, b), pack(t, neg(t, b))
	even[31] |= 0x80
	if even != turned {
		t.Errorf("Pack(Neg(Base())) = %x; want %x", turned, even)
	}
}

// told holds Unpack against the chapter's words; whether there was a point is answered.
func told(t *testing.T, b element) bool {
	t.Helper()
	got, err := curve.Unpack(b)
	if want, fails := pointOf(t, b); got != want || err != fails {
		t.Errorf("Unpack(%x) = %x, %d; want %x, %d", b, got, err, want, fails)
	}
	return err == api.OK
}

// P17.3: Unpack of small and great y and of any, with the highest bit 0 and 1: some make points, some none.
func TestUnpack(t *testing.T) {
	r := rand.New(rand.NewSource(178))
	points, tries := 0, 0
	try := func(y element) {
		for _, bit := range []byte{0, 0x80} {
			y[31] = y[31]&0x7f | bit
			tries++
			if told(t, y) {
				points++
			}
		}
	}
	for n := range int64(150) {
		try(small(n))
		try(small(-n))
	}
	for range 150 {
		var y element
		r.Read(y[:])
		try(y)
	}
	if points < tries/3 || points > 2*tries/3 {
		t.Errorf("of %d bytes %d make points", tries, points)
	}
}

// P17.3: y that is no element: all numbers from p to 2^255 - 1, with the highest bit 0 and 1, though 0 and 1, which some of them are taken round, make points.
func TestUnpackNoElement(t *testing.T) {
	for n := range int64(19) {
		y := offPrime(n)
		for _, bit := range []byte{0, 0x80} {
			y[31] = y[31]&0x7f | bit
			if got, err := curve.Unpack(y); got != nowhere || err != api.ErrPoint {
				t.Errorf("Unpack(%x) = %x, %d; want ErrPoint", y, got, err)
			}
		}
	}
}

// P17.3: x that is 0: with the highest bit 0 there is a point, with 1 none. Of y 0 there are two points, as x is not 0.
func TestUnpackXIsZero(t *testing.T) {
	for _, y := range []element{small(1), small(-1)} {
		if got, err := curve.Unpack(y); got != (api.Point{Y: y}) || err != api.OK {
			t.Errorf("Unpack(%x) = %x, %d; want x 0", y, got, err)
		}
		y[31] |= 0x80
		if got, err := curve.Unpack(y); got != nowhere || err != api.ErrPoint {
			t.Errorf("Unpack(%x) = %x, %d; want ErrPoint", y, got, err)
		}
	}
	even, err := curve.Unpack(element{})
	odd, fails := curve.Unpack(element{31: 0x80})
	if err != api.OK || fails != api.OK || even.X[0]&1 != 0 || odd != neg(t, even) || even.X == (element{}) {
		t.Errorf("Unpack of y 0 = %x, %d and %x, %d", even, err, odd, fails)
	}
}

// P17.3, R1: bytes of which no x makes a point.
func TestUnpackNone(t *testing.T) {
	for _, b := range []element{{2}, {2, 31: 0x80}, {7}, {7, 31: 0x80}} {
		if got, err := curve.Unpack(b); got != nowhere || err != api.ErrPoint {
			t.Errorf("Unpack(%x) = %x, %d; want ErrPoint", b, got, err)
		}
	}
}

// P17.4: sums hang on no order and no grouping; Zero() turns nothing; a point and Neg of it are Zero().
func TestOrderAndGrouping(t *testing.T) {
	r := rand.New(rand.NewSource(179))
	some := somePoints(t, r)
	for _, p := range some {
		is(t, "p + Zero()", add(t, p, curve.Zero()), p)
		is(t, "Zero() + p", add(t, curve.Zero(), p), p)
		is(t, "p + Neg(p)", add(t, p, neg(t, p)), curve.Zero())
		is(t, "Neg(p) + p", add(t, neg(t, p), p), curve.Zero())
		is(t, "p + p", add(t, p, p), scale(t, []byte{2}, p))
		for _, q := range some {
			is(t, "p + q", add(t, p, q), add(t, q, p))
			is(t, "Neg(p + q)", neg(t, add(t, p, q)), add(t, neg(t, p), neg(t, q)))
			o := some[r.Intn(len(some))]
			is(t, "(p + q) + o", add(t, add(t, p, q), o), add(t, p, add(t, q, o)))
		}
	}
}

// P17.4: Scale of a sum of numbers is the sum; of a product it is Scale of Scale; of a sum of points it is the sum.
func TestScaleOfSums(t *testing.T) {
	r := rand.New(rand.NewSource(180))
	some := somePoints(t, r)
	for i, p := range some {
		a, b := make([]byte, 1+r.Intn(40)), make([]byte, 1+r.Intn(40))
		r.Read(a)
		r.Read(b)
		one, other := scale(t, a, p), scale(t, b, p)
		is(t, "(a + b) p", scale(t, bytesOf(new(big.Int).Add(value(a), value(b))), p), add(t, one, other))
		is(t, "(a b) p", scale(t, bytesOf(new(big.Int).Mul(value(a), value(b))), p), scale(t, a, other))
		q := some[(i+7)%len(some)]
		is(t, "a (p + q)", scale(t, a, add(t, p, q)), add(t, one, scale(t, a, q)))
		is(t, "a Neg(p)", scale(t, a, neg(t, p)), neg(t, one))
	}
}

// P17.4: what was packed is told as itself; what is told packs as the same bytes.
func TestThereAndBack(t *testing.T) {
	r := rand.New(rand.NewSource(181))
	for _, p := range somePoints(t, r) {
		if got, err := curve.Unpack(pack(t, p)); got != p || err != api.OK {
			t.Errorf("Unpack(Pack(%x)) = %x, %d", p, got, err)
		}
	}
	for range 300 {
		var b element
		r.Read(b[:])
		p, err := curve.Unpack(b)
		if err != api.OK {
			continue
		}
		if !curve.On(p) || pack(t, p) != b {
			t.Errorf("Unpack(%x) = %x, which packs as %x", b, p, pack(t, p))
		}
	}
}

// R2: the bytes that Scale is handed are not written into, nor their spare room; the same call answers the same, whatever was asked in between.
func TestNothingIsChangedOrKept(t *testing.T) {
	room := []byte{0, 3, 250, 0, 9, 9, 9}
	before := slices.Clone(room)
	b := curve.Base()
	first := scale(t, room[:4], b)
	if !slices.Equal(room, before) {
		t.Errorf("Scale left %x; want %x", room, before)
	}
	for _, s := range strangers(t) {
		curve.Add(b, s)
		curve.Scale(room, s)
		curve.Pack(s)
		curve.Unpack(s.X)
	}
	room[1] = 4
	curve.Scale(room, first)
	is(t, "Scale", scale(t, before[:4], b), first)
	is(t, "Base()", curve.Base(), b)
	is(t, "Zero()", curve.Zero(), api.Point{Y: element{1}})
}
