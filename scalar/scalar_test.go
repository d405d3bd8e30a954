package scalar_test

import (
	"bytes"
	"crypto/ed25519"
	"crypto/sha512"
	"math/big"
	"math/rand"
	"slices"
	"testing"

	"casemate/api"
	"casemate/curve"
	"casemate/nums"
	"casemate/scalar"
)

// number is one of 32 bytes, the lowest first.
type number = [32]byte

// order is the number that the chapter tells, by the library's great numbers.
func order() *big.Int {
	more, _ := new(big.Int).SetString("27742317777372353535851937790883648493", 10)
	return more.Add(more, new(big.Int).Lsh(big.NewInt(1), 252))
}

// value is the number that bytes stand for.
func value(b []byte) *big.Int {
	b = slices.Clone(b)
	slices.Reverse(b)
	return new(big.Int).SetBytes(b)
}

// bytesOf are the bytes of a number, without noughts at the end.
func bytesOf(v *big.Int) []byte {
	b := v.Bytes()
	slices.Reverse(b)
	return b
}

// laid are the 32 bytes of a number below 2^256.
func laid(v *big.Int) number {
	var out number
	copy(out[:], bytesOf(v))
	return out
}

// left is what is left of a number by the order.
func left(v *big.Int) number { return laid(new(big.Int).Mod(v, order())) }

// offOrder is so many times the order, and n.
func offOrder(times, n int64) *big.Int {
	out := new(big.Int).Mul(order(), big.NewInt(times))
	return out.Add(out, big.NewInt(n))
}

// powerOf is 2 to the power of n, and more.
func powerOf(n uint, more int64) *big.Int {
	out := new(big.Int).Lsh(big.NewInt(1), n)
	return out.Add(out, big.NewInt(more))
}

// ones is 32 times ff.
func ones() number { return number(bytes.Repeat([]byte{0xff}, 32)) }

// noughted is a number with n noughts behind its bytes.
func noughted(b []byte, n int) []byte { return append(slices.Clone(b), make([]byte, n)...) }

// loose is a number of n bytes of any kind.
func loose(r *rand.Rand, n int) []byte {
	out := make([]byte, n)
	r.Read(out)
	return out
}

// ends are numbers of 32 bytes at which something turns: 0, those next to the order, to its multiples and to powers of 2, the greatest one.
func ends() []number {
	out := []number{{}, {1}, {2}, {3}, {0xff}, {0, 1}, {31: 0x80}, ones()}
	for times := range int64(16) {
		for n := int64(-2); n <= 2; n++ {
			if v := offOrder(times, n); v.Sign() >= 0 && v.BitLen() <= 256 {
				out = append(out, laid(v))
			}
		}
	}
	for _, n := range []uint{64, 124, 125, 126, 127, 128, 251, 252, 253, 254, 255} {
		out = append(out, laid(powerOf(n, -1)), laid(powerOf(n, 0)), laid(powerOf(n, 1)))
	}
	return out
}

// some are the ends, numbers of any bytes, and what is left of such.
func some(r *rand.Rand) []number {
	out := ends()
	for range 20 {
		a := number(loose(r, 32))
		out = append(out, a, left(value(a[:])))
	}
	return out
}

// is holds a number against the one that it must be.
func is(t *testing.T, what string, got, want number) {
	t.Helper()
	if got != want {
		t.Errorf("%s = %x; want %x", what, got, want)
	}
}

// reduces holds Reduce against the library's numbers; what comes out is below the order.
func reduces(t *testing.T, b []byte) {
	t.Helper()
	got := scalar.Reduce(b)
	if want := left(value(b)); got != want || !scalar.Is(got) {
		t.Errorf("Reduce(%x) = %x; want %x", b, got, want)
	}
}

// mulAdds holds MulAdd against the library's numbers; what comes out is below the order.
func mulAdds(t *testing.T, a, b, c number) {
	t.Helper()
	want := new(big.Int).Mul(value(a[:]), value(b[:]))
	want.Add(want, value(c[:]))
	if got := scalar.MulAdd(a, b, c); got != left(want) || !scalar.Is(got) {
		t.Errorf("MulAdd(%x, %x, %x) = %x; want %x", a, b, c, got, left(want))
	}
}

// sum is what is left of a sum.
func sum(a, b number) number { return scalar.MulAdd(a, number{1}, b) }

// product is what is left of a product.
func product(a, b number) number { return scalar.MulAdd(a, b, number{}) }

// P18.1, P18.2: the chapter's examples.
func TestExamples(t *testing.T) {
	o := scalar.Order()
	if scalar.Is(o) {
		t.Error("Is(Order()) = true; want false")
	}
	is(t, "Reduce(Order())", scalar.Reduce(o[:]), number{})
	is(t, "MulAdd(2, 3, 4)", scalar.MulAdd(number{2}, number{3}, number{4}), number{10})
	want := ones()
	want[0], want[31] = 0xf8, 0x7f
	is(t, "Clamp(32 times ff)", scalar.Clamp(ones()), want)
}

// P18.1: the order is the number that the chapter tells.
func TestOrder(t *testing.T) {
	is(t, "Order()", scalar.Order(), laid(order()))
	decimal := "7237005577332262213973186563042994240857116359379907606001950938285454250989"
	o := scalar.Order()
	if got := value(o[:]).String(); got != decimal {
		t.Errorf("Order() = %s; want %s", got, decimal)
	}
}

// P18.1: Is just below the order, at it and above it, at its multiples and at 32 times ff.
func TestIs(t *testing.T) {
	for _, x := range []struct {
		a    number
		want bool
	}{
		{number{}, true},
		{number{1}, true},
		{laid(offOrder(1, -2)), true},
		{laid(offOrder(1, -1)), true},
		{laid(offOrder(1, 0)), false},
		{laid(offOrder(1, 1)), false},
		{laid(offOrder(2, -1)), false},
		{laid(offOrder(2, 0)), false},
		{laid(powerOf(252, -1)), true},
		{laid(powerOf(252, 0)), true},
		{laid(powerOf(253, 0)), false},
		{number{31: 0x80}, false},
		{ones(), false},
	} {
		if got := scalar.Is(x.a); got != x.want {
			t.Errorf("Is(%x) = %v; want %v", x.a, got, x.want)
		}
	}
	for _, a := range some(rand.New(rand.NewSource(18))) {
		if got, want := scalar.Is(a), value(a[:]).Cmp(order()) < 0; got != want {
			t.Errorf("Is(%x) = %v; want %v", a, got, want)
		}
	}
}

// P18.1: each byte of the order tells: one less in any that is not 0 is below it, one more in any is not.
func TestIsByEachByte(t *testing.T) {
	for i, x := range scalar.Order() {
		less, more := scalar.Order(), scalar.Order()
		less[i]--
		more[i]++
		if x > 0 && !scalar.Is(less) {
			t.Errorf("Is(%x) = false; want true", less)
		}
		if scalar.Is(more) {
			t.Errorf("Is(%x) = true; want false", more)
		}
	}
}

// P18.1: nothing is left of no bytes and of noughts, however many.
func TestReduceNothing(t *testing.T) {
	for _, b := range [][]byte{nil, {}, {0}, {0, 0}, make([]byte, 31), make([]byte, 32), make([]byte, 33), make([]byte, 64), make([]byte, 5000)} {
		is(t, "Reduce of noughts", scalar.Reduce(b), number{})
	}
}

// P18.1: what is below the order is left as it is, with few bytes and with 32; of it and of what is above it less is left.
func TestReduceNearOrder(t *testing.T) {
	below := laid(offOrder(1, -1))
	is(t, "Reduce(order - 1)", scalar.Reduce(below[:]), below)
	is(t, "Reduce(order)", scalar.Reduce(bytesOf(offOrder(1, 0))), number{})
	is(t, "Reduce(order + 1)", scalar.Reduce(bytesOf(offOrder(1, 1))), number{1})
	is(t, "Reduce(2 order - 1)", scalar.Reduce(bytesOf(offOrder(2, -1))), below)
	r := rand.New(rand.NewSource(181))
	for n := range 32 {
		b := loose(r, n)
		is(t, "Reduce of few bytes", scalar.Reduce(b), laid(value(b)))
		is(t, "Reduce of few bytes and noughts", scalar.Reduce(noughted(b, 60)), laid(value(b)))
	}
	for _, a := range some(r) {
		reduces(t, a[:])
	}
}

// P18.1: multiples of the order leave nothing; those next to them leave what they are off.
func TestReduceMultiples(t *testing.T) {
	r := rand.New(rand.NewSource(182))
	below := laid(offOrder(1, -1))
	for _, n := range []int{1, 2, 8, 31, 32, 33, 64, 300} {
		for _, times := range []*big.Int{powerOf(uint(8*n-8), 0), powerOf(uint(8*n), -1), new(big.Int).Add(value(loose(r, n)), big.NewInt(1))} {
			v := new(big.Int).Mul(order(), times)
			is(t, "Reduce(k order)", scalar.Reduce(bytesOf(v)), number{})
			is(t, "Reduce(k order - 1)", scalar.Reduce(bytesOf(new(big.Int).Sub(v, big.NewInt(1)))), below)
			is(t, "Reduce(k order + 1)", scalar.Reduce(bytesOf(new(big.Int).Add(v, big.NewInt(1)))), number{1})
			is(t, "Reduce(k order + order - 1)", scalar.Reduce(bytesOf(new(big.Int).Add(v, offOrder(1, -1)))), below)
		}
	}
}

// P18.1: rows of 32, 64 and more bytes, of any bytes and of ff alone, also with noughts at their end.
func TestReduceLong(t *testing.T) {
	r := rand.New(rand.NewSource(183))
	for _, n := range []int{31, 32, 33, 34, 63, 64, 65, 100, 128, 1000, 20000} {
		for range 10 {
			reduces(t, loose(r, n))
		}
		reduces(t, bytes.Repeat([]byte{0xff}, n))
		reduces(t, bytesOf(powerOf(uint(8*n), 0)))
		b := loose(r, n)
		for _, noughts := range []int{1, 31, 32, 64, 3000} {
			is(t, "Reduce with noughts at the end", scalar.Reduce(noughted(b, noughts)), scalar.Reduce(b))
			reduces(t, noughted(b, noughts))
		}
	}
	long := noughted(loose(r, 1<<20), 1<<20)
	reduces(t, long)
}

// P18.1: each bit of a number counts, beyond 64 bytes too.
func TestReduceBits(t *testing.T) {
	for bit := range 600 {
		b := make([]byte, 75)
		b[bit/8] = 1 << (bit % 8)
		reduces(t, b)
	}
}

// P18.1: what is left of what is left is the same.
func TestReduceTwice(t *testing.T) {
	r := rand.New(rand.NewSource(184))
	for n := range 150 {
		once := scalar.Reduce(loose(r, n))
		is(t, "Reduce of Reduce", scalar.Reduce(once[:]), once)
	}
}

// R2: what Reduce is handed stays as it was, nor is its spare room written into; its answer is not changed with it, and the same call answers the same.
func TestReduceMemory(t *testing.T) {
	r := rand.New(rand.NewSource(185))
	for _, n := range []int{0, 1, 31, 32, 33, 64, 65, 500} {
		for _, front := range [][]byte{make([]byte, n), loose(r, n), bytes.Repeat([]byte{0xff}, n)} {
			whole := append(slices.Clone(front), bytes.Repeat([]byte{0xa5}, 80)...)
			was := slices.Clone(whole)
			first := scalar.Reduce(whole[:n])
			if !bytes.Equal(whole, was) {
				t.Errorf("Reduce(%x) left %x", was[:n], whole)
			}
			for i := range whole {
				whole[i] ^= 0xff
			}
			scalar.Reduce(whole)
			is(t, "Reduce again", scalar.Reduce(was[:n]), first)
		}
	}
}

// R2: Order is new each time: what is written into one changes no other, nor any other call.
func TestOrderIsKept(t *testing.T) {
	o := scalar.Order()
	o[0], o[31] = 1, 0
	is(t, "Order()", scalar.Order(), laid(order()))
	is(t, "Reduce(order + 1)", scalar.Reduce(bytesOf(offOrder(1, 1))), number{1})
	if !scalar.Is(laid(offOrder(1, -1))) || scalar.Is(laid(order())) {
		t.Error("Is has another order")
	}
}

// P18.2: MulAdd of numbers of 32 bytes below the order and above it, at all ends.
func TestMulAdd(t *testing.T) {
	r := rand.New(rand.NewSource(186))
	for _, a := range some(r) {
		for _, b := range some(r) {
			mulAdds(t, a, b, a)
			mulAdds(t, a, b, number(loose(r, 32)))
			mulAdds(t, a, b, ones())
		}
	}
	below := laid(offOrder(1, -1))
	is(t, "(order - 1) (order - 1) + 1", scalar.MulAdd(below, below, number{1}), number{2})
	is(t, "(order - 1) (order - 1) + order - 1", scalar.MulAdd(below, below, below), number{})
	mulAdds(t, ones(), ones(), ones())
}

// P18.2: 0 and 1 as each argument, 0 also as the order.
func TestMulAddZeroAndOne(t *testing.T) {
	r := rand.New(rand.NewSource(187))
	one := number{1}
	for _, a := range some(r) {
		b := number(loose(r, 32))
		la, lb := left(value(a[:])), left(value(b[:]))
		for _, zero := range []number{{}, laid(order()), laid(offOrder(3, 0))} {
			is(t, "0 a + b", scalar.MulAdd(zero, a, b), lb)
			is(t, "a 0 + b", scalar.MulAdd(a, zero, b), lb)
			is(t, "0 0 + a", scalar.MulAdd(zero, zero, a), la)
			is(t, "1 a + 0", scalar.MulAdd(one, a, zero), la)
			is(t, "a 1 + 0", scalar.MulAdd(a, one, zero), la)
			is(t, "0 a + 0", scalar.MulAdd(zero, a, zero), number{})
			is(t, "a b + 0", scalar.MulAdd(a, b, zero), left(new(big.Int).Mul(value(a[:]), value(b[:]))))
		}
		mulAdds(t, one, a, b)
		mulAdds(t, a, one, b)
		mulAdds(t, a, b, one)
		mulAdds(t, one, one, a)
	}
	is(t, "1 1 + 1", scalar.MulAdd(one, one, one), number{2})
	is(t, "0 0 + 1", scalar.MulAdd(number{}, number{}, one), one)
}

// P18.2: it answers what Reduce answers of layer 15's sum of the product, and hangs on no more than what is left of each argument.
func TestMulAddAgainstReduce(t *testing.T) {
	r := rand.New(rand.NewSource(188))
	for range 500 {
		a, b, c := number(loose(r, 32)), number(loose(r, 32)), number(loose(r, 32))
		want := scalar.Reduce(nums.Add(nums.Mul(a[:], b[:]), c[:]))
		is(t, "MulAdd", scalar.MulAdd(a, b, c), want)
		is(t, "MulAdd of what is left", scalar.MulAdd(scalar.Reduce(a[:]), scalar.Reduce(b[:]), scalar.Reduce(c[:])), want)
	}
}

// P18.2: sums and products hang on no order and no grouping, and products go through sums.
func TestOrderAndGrouping(t *testing.T) {
	r := rand.New(rand.NewSource(189))
	numbers := some(r)
	pick := func() number { return numbers[r.Intn(len(numbers))] }
	for range 2000 {
		a, b, c := pick(), pick(), pick()
		is(t, "a b + c", scalar.MulAdd(a, b, c), scalar.MulAdd(b, a, c))
		is(t, "a + b", sum(a, b), sum(b, a))
		is(t, "a b", product(a, b), product(b, a))
		is(t, "(a + b) + c", sum(sum(a, b), c), sum(a, sum(b, c)))
		is(t, "(a b) c", product(product(a, b), c), product(a, product(b, c)))
		is(t, "a (b + c)", product(a, sum(b, c)), scalar.MulAdd(a, b, product(a, c)))
		is(t, "a b + c", scalar.MulAdd(a, b, c), sum(product(a, b), c))
	}
}

// R2: the arguments and the answer are nobody else's: the same call answers the same, whatever was asked in between.
func TestMulAddKeepsNothing(t *testing.T) {
	r := rand.New(rand.NewSource(190))
	a, b, c := number(loose(r, 32)), number(loose(r, 32)), number(loose(r, 32))
	wasA, wasB, wasC := a, b, c
	first := scalar.MulAdd(a, b, c)
	for _, x := range some(r) {
		scalar.MulAdd(x, a, b)
		scalar.Reduce(x[:])
		scalar.Clamp(x)
	}
	if a != wasA || b != wasB || c != wasC {
		t.Error("MulAdd changed what it was handed")
	}
	is(t, "MulAdd again", scalar.MulAdd(a, b, c), first)
}

// P18.2: Clamp of noughts, of 32 times ff, and of each turned bit alone: the lowest three are 0, the highest is 0, the one below it 1, and all others stay.
func TestClamp(t *testing.T) {
	is(t, "Clamp of noughts", scalar.Clamp(number{}), number{31: 0x40})
	is(t, "Clamp(7)", scalar.Clamp(number{7}), number{31: 0x40})
	is(t, "Clamp(8)", scalar.Clamp(number{8}), number{8, 31: 0x40})
	full := scalar.Clamp(ones())
	for bit := range 256 {
		lone, lack := number{}, ones()
		lone[bit/8] ^= 1 << (bit % 8)
		lack[bit/8] ^= 1 << (bit % 8)
		wantLone, wantLack := number{31: 0x40}, full
		if bit > 2 && bit < 254 {
			wantLone[bit/8] ^= 1 << (bit % 8)
			wantLack[bit/8] ^= 1 << (bit % 8)
		}
		is(t, "Clamp of one bit", scalar.Clamp(lone), wantLone)
		is(t, "Clamp of all bits but one", scalar.Clamp(lack), wantLack)
	}
}

// P18.2: Clamp of any bytes by the words of the chapter; what was clamped stays; what was handed in stays, too.
func TestClampAny(t *testing.T) {
	r := rand.New(rand.NewSource(191))
	for _, b := range some(r) {
		was := b
		want := value(b[:])
		for _, bit := range []int{0, 1, 2, 255} {
			want.SetBit(want, bit, 0)
		}
		want.SetBit(want, 254, 1)
		got := scalar.Clamp(b)
		is(t, "Clamp", got, laid(want))
		is(t, "Clamp of Clamp", scalar.Clamp(got), got)
		is(t, "what was handed in", b, was)
	}
}

// scale is the base, so many times.
func scale(t *testing.T, n []byte) api.Point {
	t.Helper()
	got, err := curve.Scale(n, curve.Base())
	if err != api.OK {
		t.Fatalf("Scale(%x, Base()): %d", n, err)
	}
	return got
}

// P18.3: the base scaled by a number is the base scaled by what is left of it by the order.
func TestBaseComesRound(t *testing.T) {
	r := rand.New(rand.NewSource(192))
	numbers := [][]byte{nil, {0}, {1}, {0xff}, make([]byte, 40), loose(r, 33), loose(r, 64), loose(r, 65), noughted(loose(r, 40), 60), loose(r, 300), bytes.Repeat([]byte{0xff}, 64)}
	for _, a := range some(r) {
		numbers = append(numbers, a[:])
	}
	for _, n := range numbers {
		rest := scalar.Reduce(n)
		if got, want := scale(t, rest[:]), scale(t, n); got != want {
			t.Errorf("Base() scaled by what is left of %x = %x; want %x", n, got, want)
		}
	}
	o := scalar.Order()
	if got := scale(t, o[:]); got != curve.Zero() {
		t.Errorf("Base() scaled by Order() = %x; want Zero()", got)
	}
	neg, _ := curve.Neg(curve.Base())
	if got := scale(t, bytesOf(offOrder(1, -1))); got != neg {
		t.Errorf("Base() scaled by the order less 1 = %x; want %x", got, neg)
	}
}

// P18.3: so the base scaled by MulAdd is the sum of the base scaled by the product and by what is added; the order less any power of 2 does not turn it to Zero().
func TestBaseOfSums(t *testing.T) {
	r := rand.New(rand.NewSource(193))
	for range 20 {
		a, b, c := number(loose(r, 32)), number(loose(r, 32)), number(loose(r, 32))
		point, err := curve.Scale(a[:], scale(t, b[:]))
		if err != api.OK {
			t.Fatal(err)
		}
		want, err := curve.Add(point, scale(t, c[:]))
		rest := scalar.MulAdd(a, b, c)
		if got := scale(t, rest[:]); err != api.OK || got != want {
			t.Errorf("Base() scaled by MulAdd(%x, %x, %x) = %x; want %x", a, b, c, got, want)
		}
	}
	for bit := range 253 {
		less := new(big.Int).Sub(order(), powerOf(uint(bit), 0))
		if n := laid(less); !scalar.Is(n) || scale(t, n[:]) == curve.Zero() {
			t.Errorf("Base() scaled by %x is Zero()", n)
		}
	}
}

// P18.1, P18.2: the library's keys and signatures come of the same numbers: a key is the base scaled by Clamp, the second half of a signature is MulAdd.
func TestAgainstLibrary(t *testing.T) {
	r := rand.New(rand.NewSource(194))
	for range 20 {
		seed, message := loose(r, ed25519.SeedSize), loose(r, r.Intn(100))
		key := ed25519.NewKeyFromSeed(seed)
		public := []byte(key.Public().(ed25519.PublicKey))
		long := sha512.Sum512(seed)
		a := scalar.Clamp(number(long[:32]))
		if got, err := curve.Pack(scale(t, a[:])); err != api.OK || !bytes.Equal(got[:], public) {
			t.Errorf("the key of %x = %x; want %x", seed, got, public)
		}
		sign := ed25519.Sign(key, message)
		first := sha512.Sum512(slices.Concat(long[32:], message))
		second := sha512.Sum512(slices.Concat(sign[:32], public, message))
		got := scalar.MulAdd(scalar.Reduce(second[:]), a, scalar.Reduce(first[:]))
		is(t, "the signature's number", got, number(sign[32:]))
	}
}
