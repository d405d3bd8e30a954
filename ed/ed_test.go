package ed_test

import (
	"bytes"
	"crypto/ed25519"
	"crypto/sha512"
	"encoding/hex"
	"math/big"
	"math/rand"
	"slices"
	"testing"

	"casemate/api"
	"casemate/curve"
	"casemate/ed"
	"casemate/scalar"
)

// packed is a point's bytes, a number's, or a seed's.
type packed = [32]byte

// longMessage is that of RFC 8032's test of 1023 bytes.
const longMessage = "08b8b2b733424243760fe426a4b54908632110a66c2f6591eabd3345e3e4eb98fa6e264bf09efe12ee50f8f54e9f77b1" +
	"e355f6c50544e23fb1433ddf73be84d879de7c0046dc4996d9e773f4bc9efe5738829adb26c81b37c93a1b270b20329d" +
	"658675fc6ea534e0810a4432826bf58c941efb65d57a338bbd2e26640f89ffbc1a858efcb8550ee3a5e1998bd177e93a" +
	"7363c344fe6b199ee5d02e82d522c4feba15452f80288a821a579116ec6dad2b3b310da903401aa62100ab5d1a36553e" +
	"06203b33890cc9b832f79ef80560ccb9a39ce767967ed628c6ad573cb116dbefefd75499da96bd68a8a97b928a8bbc10" +
	"3b6621fcde2beca1231d206be6cd9ec7aff6f6c94fcd7204ed3455c68c83f4a41da4af2b74ef5c53f1d8ac70bdcb7ed1" +
	"85ce81bd84359d44254d95629e9855a94a7c1958d1f8ada5d0532ed8a5aa3fb2d17ba70eb6248e594e1a2297acbbb39d" +
	"502f1a8c6eb6f1ce22b3de1a1f40cc24554119a831a9aad6079cad88425de6bde1a9187ebb6092cf67bf2b13fd65f270" +
	"88d78b7e883c8759d2c4f5c65adb7553878ad575f9fad878e80a0c9ba63bcbcc2732e69485bbc9c90bfbd62481d9089b" +
	"eccf80cfe2df16a2cf65bd92dd597b0707e0917af48bbb75fed413d238f5555a7a569d80c3414a8d0859dc65a46128ba" +
	"b27af87a71314f318c782b23ebfe808b82b0ce26401d2e22f04d83d1255dc51addd3b75a2b1ae0784504df543af8969b" +
	"e3ea7082ff7fc9888c144da2af58429ec96031dbcad3dad9af0dcbaaaf268cb8fcffead94f3c7ca495e056a9b47acdb7" +
	"51fb73e666c6c655ade8297297d07ad1ba5e43f1bca32301651339e22904cc8c42f58c30c04aafdb038dda0847dd988d" +
	"cda6f3bfd15c4b4c4525004aa06eeff8ca61783aacec57fb3d1f92b0fe2fd1a85f6724517b65e614ad6808d6f6ee34df" +
	"f7310fdc82aebfd904b01e1dc54b2927094b2db68d6f903b68401adebf5a7e08d78ff4ef5d63653a65040cf9bfd4aca7" +
	"984a74d37145986780fc0b16ac451649de6188a7dbdf191f64b5fc5e2ab47b57f7f7276cd419c17a3ca8e1b939ae49e4" +
	"88acba6b965610b5480109c8b17b80e1b7b750dfc7598d5d5011fd2dcc5600a32ef5b52a1ecc820e308aa342721aac09" +
	"43bf6686b64b2579376504ccc493d97e6aed3fb0f9cd71a43dd497f01f17c0e2cb3797aa2a2f256656168e6c496afc5f" +
	"b93246f6b1116398a346f1a641f3b041e989f7914f90cc2c7fff357876e506b50d334ba77c225bc307ba537152f3f161" +
	"0e4eafe595f6d9d90d11faa933a15ef1369546868a7f3a45a96768d40fd9d03412c091c6315cf4fde7cb68606937380d" +
	"b2eaaa707b4c4185c32eddcdd306705e4dc1ffc872eeee475a64dfac86aba41c0618983f8741c5ef68d3a101e8a3b8ca" +
	"c60c905c15fc910840b94c00a0b9d0"

// rfc are the tests of RFC 8032, section 7.1: of no bytes, of one, of two, of 1023, of a digest.
var rfc = []struct{ seed, public, message, sign string }{
	{"9d61b19deffd5a60ba844af492ec2cc44449c5697b326919703bac031cae7f60", "d75a980182b10ab7d54bfed3c964073a0ee172f3daa62325af021a68f707511a", "", "e5564300c360ac729086e2cc806e828a84877f1eb8e5d974d873e065224901555fb8821590a33bacc61e39701cf9b46bd25bf5f0595bbe24655141438e7a100b"},
	{"4ccd089b28ff96da9db6c346ec114e0f5b8a319f35aba624da8cf6ed4fb8a6fb", "3d4017c3e843895a92b70aa74d1b7ebc9c982ccf2ec4968cc0cd55f12af4660c", "72", "92a009a9f0d4cab8720e820b5f642540a2b27b5416503f8fb3762223ebdb69da085ac1e43e15996e458f3613d0f11d8c387b2eaeb4302aeeb00d291612bb0c00"},
	{"c5aa8df43f9f837bedb7442f31dcb7b166d38535076f094b85ce3a2e0b4458f7", "fc51cd8e6218a1a38da47ed00230f0580816ed13ba3303ac5deb911548908025", "af82", "6291d657deec24024827e69c3abe01a30ce548a284743a445e3680d7db5ac3ac18ff9b538d16f290ae67f760984dc6594a7c15e9716ed28dc027beceea1ec40a"},
	{"f5e5767cf153319517630f226876b86c8160cc583bc013744c6bf255f5cc0ee5", "278117fc144c72340f67d0f2316e8386ceffbf2b2428c9c51fef7c597f1d426e", longMessage, "0aab4c900501b3e24d7cdf4663326a3a87df5e4843b2cbdb67cbf6e460fec350aa5371b1508f9f4528ecea23c436d94b5e8fcd4f681e30a6ac00a9704a188a03"},
	{"833fe62409237b9d62ec77587520911e9a759cec1d19755b7da901b96dca3d42", "ec172b93ad5e563bf4932c70e1245034c35467ef2efd4d64ebf819683467e2bf", "ddaf35a193617abacc417349ae20413112e6fa4e89a97ea20a9eeee64b55d39a2192992a274fc1a836ba3c23a3feebbd454d4423643ce80e2a9ac94fa54ca49f", "dc2a4459e7369633a52b1bf277839a00201009a3efbf3ecb69bea2186c26b58909351fc9ac90b3ecfdfbc7c66431e0303dca179c138ac17ad9bef1177331a704"},
}

// told are the bytes of a text of base 16.
func told(t *testing.T, text string) []byte {
	t.Helper()
	b, err := hex.DecodeString(text)
	if err != nil {
		t.Fatal(err)
	}
	return b
}

// loose are n bytes of any kind.
func loose(r *rand.Rand, n int) []byte {
	out := make([]byte, n)
	r.Read(out)
	return out
}

// ones is 32 times ff.
func ones() packed { return packed(bytes.Repeat([]byte{0xff}, 32)) }

// order is that of the base, by the library's great numbers.
func order() *big.Int {
	more, _ := new(big.Int).SetString("27742317777372353535851937790883648493", 10)
	return more.Add(more, new(big.Int).Lsh(big.NewInt(1), 252))
}

// prime is 2^255 - 19.
func prime() *big.Int {
	return new(big.Int).Sub(new(big.Int).Lsh(big.NewInt(1), 255), big.NewInt(19))
}

// value is the number that bytes stand for.
func value(b []byte) *big.Int {
	b = slices.Clone(b)
	slices.Reverse(b)
	return new(big.Int).SetBytes(b)
}

// laid are the 32 bytes of a number below 2^256.
func laid(v *big.Int) packed {
	b := v.Bytes()
	slices.Reverse(b)
	var out packed
	copy(out[:], b)
	return out
}

// offOrder is a number that has so many times the order more.
func offOrder(s packed, times int64) *big.Int {
	more := new(big.Int).Mul(order(), big.NewInt(times))
	return more.Add(more, value(s[:]))
}

// modulus is what is left of a number by the order.
func modulus(v *big.Int) packed { return laid(new(big.Int).Mod(v, order())) }

// factor is the number k of a signature, by the library's digest and its great numbers.
func factor(r, public packed, message []byte) *big.Int {
	h := sha512.Sum512(slices.Concat(r[:], public[:], message))
	return new(big.Int).Mod(value(h[:]), order())
}

// isPoint: do bytes stand for a point, by the words of layer 17 and the library's great numbers?
func isPoint(b packed) bool {
	p, odd := prime(), b[31]>>7 == 1
	b[31] &= 0x7f
	y := value(b[:])
	if y.Cmp(p) >= 0 {
		return false
	}
	yy := new(big.Int).Mul(y, y)
	d := new(big.Int).Mul(big.NewInt(-121665), new(big.Int).ModInverse(big.NewInt(121666), p))
	under := new(big.Int).Mul(d, yy)
	under.Add(under, big.NewInt(1)).Mod(under, p)
	xx := new(big.Int).Sub(yy, big.NewInt(1))
	xx.Mul(xx, under.ModInverse(under, p)).Mod(xx, p)
	if xx.Sign() == 0 {
		return !odd
	}
	return new(big.Int).ModSqrt(xx, p) != nil
}

// strangers are bytes that stand for no point: a y that is no element, a y of which no x makes a point, and x 0 with the bit of an odd one.
func strangers(t *testing.T) []packed {
	t.Helper()
	out := []packed{{2}, {2, 31: 0x80}, ones(), {1, 31: 0x80}}
	minusOne := laid(new(big.Int).Sub(prime(), big.NewInt(1)))
	minusOne[31] |= 0x80
	out = append(out, minusOne)
	for n := range int64(19) {
		b := laid(new(big.Int).Add(prime(), big.NewInt(n)))
		out = append(out, b)
		b[31] |= 0x80
		out = append(out, b)
	}
	for _, b := range out {
		if isPoint(b) {
			t.Fatalf("%x is a point", b)
		}
	}
	return out
}

// times is so many times a point.
func times(t *testing.T, n *big.Int, p api.Point) api.Point {
	t.Helper()
	b := laid(n)
	out, err := curve.Scale(b[:], p)
	if err != api.OK {
		t.Fatalf("Scale(%x, %x): %d", b, p, err)
	}
	return out
}

// plus is a sum.
func plus(t *testing.T, p, q api.Point) api.Point {
	t.Helper()
	out, err := curve.Add(p, q)
	if err != api.OK {
		t.Fatalf("Add(%x, %x): %d", p, q, err)
	}
	return out
}

// pack is a point's bytes.
func pack(t *testing.T, p api.Point) packed {
	t.Helper()
	out, err := curve.Pack(p)
	if err != api.OK {
		t.Fatalf("Pack(%x): %d", p, err)
	}
	return out
}

// unpack is the point of bytes.
func unpack(t *testing.T, b packed) api.Point {
	t.Helper()
	out, err := curve.Unpack(b)
	if err != api.OK {
		t.Fatalf("Unpack(%x): %d", b, err)
	}
	return out
}

// turning are the eight points of small order: each is the sum of the one ahead of it and the second.
func turning(t *testing.T) []api.Point {
	t.Helper()
	for y := byte(2); y < 100; y++ {
		p, err := curve.Unpack(packed{y})
		if err != api.OK {
			continue
		}
		p = times(t, order(), p)
		if times(t, big.NewInt(4), p) == curve.Zero() {
			continue
		}
		out := []api.Point{curve.Zero()}
		for range 7 {
			out = append(out, plus(t, out[len(out)-1], p))
		}
		return out
	}
	t.Fatal("no point of order 8")
	return nil
}

// both are the 64 bytes of a signature.
func both(r, s packed) []byte { return slices.Concat(r[:], s[:]) }

// halves are the two parts of a signature.
func halves(sign [64]byte) (packed, packed) { return packed(sign[:32]), packed(sign[32:]) }

// verifies holds Verify against an answer, and, where all bytes are of the right form, the library against it.
func verifies(t *testing.T, what string, public packed, message, sign []byte, want api.Errno) {
	t.Helper()
	if got := ed.Verify(public, message, sign); got != want {
		t.Errorf("%s: Verify(%x, .., %x) = %d; want %d", what, public, sign, got, want)
	}
	if want == api.ErrArg || want == api.ErrPoint {
		return
	}
	if ed25519.Verify(public[:], message, sign) != (want == api.OK) {
		t.Errorf("%s: the library says otherwise of %x, %x", what, public, sign)
	}
}

// signed is one message with its signature.
type signed struct {
	seed, public, r, s packed
	message            []byte
}

// sign makes one.
func sign(seed packed, message []byte) signed {
	r, s := halves(ed.Sign(seed, message))
	return signed{seed, ed.Public(seed), r, s, message}
}

// some are signatures of some seeds, with messages of no bytes and of some.
func some(r *rand.Rand) []signed {
	return []signed{sign(packed{}, nil), sign(packed(loose(r, 32)), loose(r, 50)), sign(ones(), []byte{0})}
}

// P19.1 to P19.3: the chapter's examples.
func TestExamples(t *testing.T) {
	seed := packed(told(t, "9d61b19deffd5a60ba844af492ec2cc44449c5697b326919703bac031cae7f60"))
	public, sign := ed.Public(seed), ed.Sign(seed, nil)
	if got := hex.EncodeToString(public[:]); got != "d75a980182b10ab7d54bfed3c964073a0ee172f3daa62325af021a68f707511a" {
		t.Errorf("Public = %s", got)
	}
	if got := hex.EncodeToString(sign[:]); got != "e5564300c360ac729086e2cc806e828a84877f1eb8e5d974d873e065224901555fb8821590a33bacc61e39701cf9b46bd25bf5f0595bbe24655141438e7a100b" {
		t.Errorf("Sign of nothing = %s", got)
	}
	if got := ed.Verify(public, nil, sign[:]); got != api.OK {
		t.Errorf("Verify of these = %d", got)
	}
	if got := ed.Verify(public, []byte{0}, sign[:]); got != api.ErrSign {
		t.Errorf("Verify of a byte 00 = %d", got)
	}
}

// P19.1 to P19.3: RFC 8032's tests.
func TestRFC(t *testing.T) {
	for _, x := range rfc {
		seed, message := packed(told(t, x.seed)), told(t, x.message)
		public, sign := ed.Public(seed), ed.Sign(seed, message)
		if got := hex.EncodeToString(public[:]); got != x.public {
			t.Errorf("Public(%s) = %s; want %s", x.seed, got, x.public)
		}
		if got := hex.EncodeToString(sign[:]); got != x.sign {
			t.Errorf("Sign(%s, %s) = %s; want %s", x.seed, x.message, got, x.sign)
		}
		verifies(t, "RFC 8032", public, message, sign[:], api.OK)
		verifies(t, "RFC 8032, one byte more", public, append(message, 0), sign[:], api.ErrSign)
	}
}

// P19.1: Public against the library: of noughts, of ones, of each bit alone, of any bytes; what was handed in stays.
func TestPublic(t *testing.T) {
	r := rand.New(rand.NewSource(190))
	seeds := []packed{{}, ones()}
	for bit := range 256 {
		lone := packed{}
		lone[bit/8] = 1 << (bit % 8)
		seeds = append(seeds, lone)
	}
	for range 50 {
		seeds = append(seeds, packed(loose(r, 32)))
	}
	for _, seed := range seeds {
		was := seed
		got := ed.Public(seed)
		if want := ed25519.NewKeyFromSeed(was[:]).Public().(ed25519.PublicKey); !bytes.Equal(got[:], want) {
			t.Errorf("Public(%x) = %x; want %x", was, got, want)
		}
		if seed != was {
			t.Errorf("Public(%x) left %x", was, seed)
		}
	}
}

// P19.1, P19.2: by the words of the chapter, with the layers below and the library's digest: a and r and k, and the points of them.
func TestSignByWords(t *testing.T) {
	r := rand.New(rand.NewSource(191))
	for _, n := range []int{0, 1, 32, 100} {
		seed, message := packed(loose(r, 32)), loose(r, n)
		h := sha512.Sum512(seed[:])
		a := scalar.Clamp(packed(h[:32]))
		public := pack(t, times(t, value(a[:]), curve.Base()))
		hidden := sha512.Sum512(slices.Concat(h[32:], message))
		first := new(big.Int).Mod(value(hidden[:]), order())
		point := pack(t, times(t, first, curve.Base()))
		second := new(big.Int).Mul(factor(point, public, message), value(a[:]))
		want := both(point, modulus(second.Add(second, first)))
		if got := ed.Sign(seed, message); !bytes.Equal(got[:], want) || ed.Public(seed) != public {
			t.Errorf("Sign(%x, %x) = %x; want %x", seed, message, got, want)
		}
	}
}

// lengths are those of messages: none, one, those at which a block of a digest ends, with 32 bytes ahead, with 64, and with none, and long ones.
func lengths() []int {
	out := []int{0, 1, 2, 3, 15, 16, 31, 32, 33, 1000, 4096, 65536, 1 << 20}
	for _, blocks := range []int{1, 2, 3, 9} {
		for _, ahead := range []int{0, 32, 64} {
			end := 128*blocks - ahead
			out = append(out, end-18, end-17, end-16, end-15, end-1, end, end+1)
		}
	}
	return out
}

// P19.2, P19.4: Sign against the library, at all lengths, of seeds of any bytes; what was signed is verified, and with another byte it is not.
func TestSign(t *testing.T) {
	r := rand.New(rand.NewSource(192))
	for _, n := range lengths() {
		seed, message := packed(loose(r, 32)), loose(r, n)
		got, public := ed.Sign(seed, message), ed.Public(seed)
		if want := ed25519.Sign(ed25519.NewKeyFromSeed(seed[:]), message); !bytes.Equal(got[:], want) {
			t.Errorf("Sign(%x, %d bytes) = %x; want %x", seed, n, got, want)
		}
		verifies(t, "what was signed", public, message, got[:], api.OK)
		if n > 0 {
			message[r.Intn(n)] ^= 1 << r.Intn(8)
			verifies(t, "a turned bit of the message", public, message, got[:], api.ErrSign)
		}
	}
}

// P19.2, P19.4: seeds of noughts, of ones and of one bit sign as the library does, and what they sign is verified.
func TestSignSeeds(t *testing.T) {
	seeds := []packed{{}, ones()}
	for bit := 0; bit < 256; bit += 9 {
		lone := packed{}
		lone[bit/8] = 1 << (bit % 8)
		seeds = append(seeds, lone)
	}
	message := []byte("a message")
	for _, seed := range seeds {
		got := ed.Sign(seed, message)
		if want := ed25519.Sign(ed25519.NewKeyFromSeed(seed[:]), message); !bytes.Equal(got[:], want) {
			t.Errorf("Sign(%x, ..) = %x; want %x", seed, got, want)
		}
		verifies(t, "what was signed", ed.Public(seed), message, got[:], api.OK)
	}
}

// P19.2: a nil message is one of no bytes.
func TestNilMessage(t *testing.T) {
	seed := packed{7}
	got := ed.Sign(seed, nil)
	if got != ed.Sign(seed, []byte{}) {
		t.Error("Sign of nil is not that of no bytes")
	}
	verifies(t, "nil", ed.Public(seed), nil, got[:], api.OK)
	verifies(t, "no bytes", ed.Public(seed), []byte{}, got[:], api.OK)
}

// P19.2, R2: a seed signs a message in one way, whatever was signed and verified in between; the message and its spare room stay, and so does the seed.
func TestSignMemory(t *testing.T) {
	r := rand.New(rand.NewSource(193))
	for _, n := range []int{0, 1, 63, 64, 65, 300} {
		seed, room := packed(loose(r, 32)), loose(r, n+300)
		wasSeed, was := seed, slices.Clone(room)
		first := ed.Sign(seed, room[:n])
		if !bytes.Equal(room, was) || seed != wasSeed {
			t.Errorf("Sign of %d bytes changed what it was handed", n)
		}
		kept := first
		for i := range room {
			room[i] ^= 0xff
		}
		other := ed.Sign(packed{1}, room)
		ed.Verify(ed.Public(packed{1}), room, other[:])
		if again := ed.Sign(seed, was[:n]); first != kept || again != first {
			t.Errorf("Sign of %d bytes = %x, then %x", n, first, again)
		}
	}
}

// P19.3, R2: Verify leaves the message, the signature and their spare room as they were, also where both lie in one list; it answers the same again.
func TestVerifyMemory(t *testing.T) {
	r := rand.New(rand.NewSource(194))
	for _, n := range []int{0, 1, 64, 200} {
		seed, message := packed(loose(r, 32)), loose(r, n)
		public, sign := ed.Public(seed), ed.Sign(seed, message)
		room := slices.Concat(sign[:], message, loose(r, 300))
		was, wasPublic := slices.Clone(room), public
		for range 2 {
			verifies(t, "in one list", public, room[64:64+n], room[:64], api.OK)
			verifies(t, "in one list, too long", public, room[64:64+n], room[:65], api.ErrArg)
			verifies(t, "in one list, another message", public, room[64:65+n], room[:64], api.ErrSign)
		}
		if !bytes.Equal(room, was) || public != wasPublic {
			t.Errorf("Verify of %d bytes changed what it was handed", n)
		}
	}
	both := slices.Repeat([]byte{1}, 64)
	if got := ed.Verify(ed.Public(packed{}), both, both); got == api.OK {
		t.Error("a message that is its own signature is verified")
	}
}

// P19.3: any other message is not verified: each bit turned, a byte more or less, ahead or behind, none.
func TestOtherMessage(t *testing.T) {
	r := rand.New(rand.NewSource(195))
	x := sign(packed(loose(r, 32)), loose(r, 20))
	mark := both(x.r, x.s)
	verifies(t, "as it was", x.public, x.message, mark, api.OK)
	for bit := range 8 * len(x.message) {
		other := slices.Clone(x.message)
		other[bit/8] ^= 1 << (bit % 8)
		verifies(t, "a turned bit", x.public, other, mark, api.ErrSign)
	}
	for _, other := range [][]byte{nil, x.message[1:], x.message[:19], append(slices.Clone(x.message), 0), append([]byte{0}, x.message...), slices.Concat(x.message, x.message), loose(r, 5000)} {
		verifies(t, "another message", x.public, other, mark, api.ErrSign)
	}
	for _, y := range some(r) {
		verifies(t, "another one's signature", x.public, x.message, both(y.r, y.s), api.ErrSign)
		verifies(t, "another one's point", x.public, x.message, both(y.r, x.s), api.ErrSign)
		verifies(t, "another one's number", x.public, x.message, both(x.r, y.s), api.ErrSign)
	}
}

// P19.3: any other public does not verify: those of other seeds, points next to it, each bit turned (ErrPoint, if that is no point).
func TestOtherPublic(t *testing.T) {
	r := rand.New(rand.NewSource(196))
	x := sign(packed(loose(r, 32)), loose(r, 33))
	mark := both(x.r, x.s)
	key := unpack(t, x.public)
	neg, _ := curve.Neg(key)
	others := []packed{pack(t, neg), pack(t, plus(t, key, key)), pack(t, plus(t, key, curve.Base())), pack(t, curve.Base()), x.r, ed.Public(packed{}), ed.Public(packed(loose(r, 32)))}
	for _, small := range turning(t) {
		others = append(others, pack(t, small))
		if small != curve.Zero() {
			others = append(others, pack(t, plus(t, key, small)))
		}
	}
	for _, other := range others {
		verifies(t, "another public", other, x.message, mark, api.ErrSign)
	}
	turned(t, x.public[:], func(b []byte, bit int) {
		want := api.ErrSign
		if !isPoint(packed(b)) {
			want = api.ErrPoint
		}
		verifies(t, "a turned bit of the public", packed(b), x.message, mark, want)
	})
}

// turned hands out bytes with one bit turned, each bit once.
func turned(t *testing.T, b []byte, try func(b []byte, bit int)) {
	t.Helper()
	for bit := range 8 * len(b) {
		other := slices.Clone(b)
		other[bit/8] ^= 1 << (bit % 8)
		try(other, bit)
	}
}

// P19.3: a turned bit anywhere in the signature: ErrPoint, if R is no point then, else ErrSign.
func TestTurnedBits(t *testing.T) {
	r := rand.New(rand.NewSource(197))
	x := sign(packed(loose(r, 32)), loose(r, 40))
	points, strange := 0, 0
	turned(t, both(x.r, x.s), func(mark []byte, bit int) {
		want := api.ErrSign
		if !isPoint(packed(mark[:32])) {
			want = api.ErrPoint
			strange++
		} else if bit < 256 {
			points++
		}
		verifies(t, "a turned bit of the signature", x.public, x.message, mark, want)
	})
	if points < 50 || strange < 50 {
		t.Errorf("of R's turned bits %d make points, %d make none", points, strange)
	}
}

// P19.3: ErrArg of signatures of any other number of bytes, ahead of what is no point and of a great S.
func TestLength(t *testing.T) {
	r := rand.New(rand.NewSource(198))
	x := sign(packed(loose(r, 32)), loose(r, 10))
	mark := append(both(x.r, x.s), make([]byte, 1<<16)...)
	strange := slices.Repeat([]byte{0xff}, 1<<16)
	for n := range 300 {
		if n == 64 {
			continue
		}
		for _, public := range []packed{x.public, {2}, ones()} {
			verifies(t, "another length", public, x.message, mark[:n], api.ErrArg)
			verifies(t, "another length, no point", public, x.message, strange[:n], api.ErrArg)
		}
	}
	for _, n := range []int{128, 320, 64 + 256, 64 + 65536, 1 << 16} {
		verifies(t, "another length", x.public, x.message, mark[:n], api.ErrArg)
	}
	verifies(t, "nil", x.public, x.message, nil, api.ErrArg)
	verifies(t, "room for one byte more", x.public, x.message, slices.Clip(mark[:64])[:63], api.ErrArg)
	verifies(t, "64 bytes of more", x.public, x.message, mark[:64], api.OK)
}

// P19.3: ErrPoint, if public or R is no packed point, also where S is not below the order.
func TestNoPoint(t *testing.T) {
	r := rand.New(rand.NewSource(199))
	x := sign(packed(loose(r, 32)), loose(r, 10))
	for _, s := range []packed{x.s, {}, {1}, laid(order()), laid(offOrder(packed{1}, 1)), laid(offOrder(x.s, 1)), ones()} {
		for _, b := range strangers(t) {
			verifies(t, "public is no point", b, x.message, both(x.r, s), api.ErrPoint)
			verifies(t, "R is no point", x.public, x.message, both(b, s), api.ErrPoint)
			verifies(t, "neither is", b, x.message, both(b, s), api.ErrPoint)
		}
	}
}

// P19.3: ErrSign, if S is the order, one more, or a right one and the order, so often as 32 bytes hold it; also where the sum would hold.
func TestGreatNumber(t *testing.T) {
	r := rand.New(rand.NewSource(200))
	for _, x := range some(r) {
		verifies(t, "a right S", x.public, x.message, both(x.r, x.s), api.OK)
		great := []packed{laid(order()), laid(offOrder(packed{1}, 1)), laid(offOrder(packed{2}, 1)), ones()}
		for n := int64(1); n < 16; n++ {
			if v := offOrder(x.s, n); v.BitLen() <= 256 {
				great = append(great, laid(v))
			}
		}
		for _, bit := range []byte{0x20, 0x40, 0x80} {
			high := x.s
			high[31] |= bit
			great = append(great, high)
		}
		for _, s := range great {
			verifies(t, "a great S", x.public, x.message, both(x.r, s), api.ErrSign)
		}
	}
	zero := pack(t, curve.Zero())
	verifies(t, "0, where all is Zero()", zero, nil, both(zero, packed{}), api.OK)
	verifies(t, "the order, where all is Zero()", zero, nil, both(zero, laid(order())), api.ErrSign)
	verifies(t, "the order and 1, where R is the base", zero, nil, both(pack(t, curve.Base()), laid(offOrder(packed{1}, 1))), api.ErrSign)
}

// P19.3, P19.4: ErrSign of any other S below the order.
func TestOtherNumber(t *testing.T) {
	r := rand.New(rand.NewSource(201))
	for _, x := range some(r) {
		s := value(x.s[:])
		others := []packed{{}, {1}, {8}, modulus(big.NewInt(-1)), modulus(new(big.Int).Neg(s)), modulus(new(big.Int).Lsh(s, 1))}
		for _, n := range []int64{-8, -1, 1, 2, 8} {
			others = append(others, modulus(new(big.Int).Add(s, big.NewInt(n))))
		}
		for range 20 {
			others = append(others, modulus(value(loose(r, 32))))
		}
		for _, other := range others {
			if other == x.s || !scalar.Is(other) {
				t.Fatalf("%x is none other below the order", other)
			}
			verifies(t, "another S", x.public, x.message, both(x.r, other), api.ErrSign)
		}
	}
}

// holds: do so many eighths of a turn of R, and k times so many of public, come to nothing?
func holds(r, public int, k *big.Int) api.Errno {
	eighths := new(big.Int).Mul(k, big.NewInt(int64(public)))
	eighths.Add(eighths, big.NewInt(int64(r))).Mod(eighths, big.NewInt(8))
	if eighths.Sign() == 0 {
		return api.OK
	}
	return api.ErrSign
}

// P19.3: points of small order as public and as R, with S 0: the sum tells. (k is what is left by the order, which is no multiple of 8, so that it matters here.)
func TestSmallOrder(t *testing.T) {
	small := turning(t)
	answers := map[api.Errno]int{}
	for i, key := range small {
		public := pack(t, key)
		good := 0
		for j, start := range small {
			first := pack(t, start)
			for n := range 5 {
				message := slices.Repeat([]byte{byte(i)}, n)
				want := holds(j, i, factor(first, public, message))
				verifies(t, "small order", public, message, both(first, packed{}), want)
				verifies(t, "small order, S 1", public, message, both(first, packed{1}), api.ErrSign)
				answers[want]++
				if want == api.OK {
					good++
				}
			}
		}
		if good == 0 {
			t.Errorf("nothing holds of public %x", public)
		}
	}
	if answers[api.OK] < 20 || answers[api.ErrSign] < 100 {
		t.Errorf("answers: %v", answers)
	}
}

// P19.3: a public and an R that are a multiple of the base and a point of small order: the sum itself tells, not eight times it.
func TestMixedOrder(t *testing.T) {
	r := rand.New(rand.NewSource(202))
	small := turning(t)
	answers := map[api.Errno]int{}
	for i, more := range small {
		a := value(loose(r, 31))
		public := pack(t, plus(t, times(t, a, curve.Base()), more))
		for j, turn := range small {
			hidden, message := value(loose(r, 31)), loose(r, 9)
			first := pack(t, plus(t, times(t, hidden, curve.Base()), turn))
			k := factor(first, public, message)
			s := new(big.Int).Mul(k, a)
			want := holds(j, i, k)
			verifies(t, "mixed order", public, message, both(first, modulus(s.Add(s, hidden))), want)
			answers[want]++
		}
	}
	if answers[api.OK] < 3 || answers[api.ErrSign] < 20 {
		t.Errorf("answers: %v", answers)
	}
}

// P19.4: with Zero() as public k does not matter: for any S the base scaled by it is the only R.
func TestOnlyPoint(t *testing.T) {
	r := rand.New(rand.NewSource(203))
	zero, small := pack(t, curve.Zero()), turning(t)
	for _, s := range []packed{{}, {1}, {2}, {8}, modulus(big.NewInt(-1)), modulus(value(loose(r, 32)))} {
		right := times(t, value(s[:]), curve.Base())
		verifies(t, "the only R", zero, s[:], both(pack(t, right), s), api.OK)
		others := []api.Point{plus(t, right, curve.Base())}
		for _, turn := range small[1:] {
			others = append(others, plus(t, right, turn))
		}
		if neg, _ := curve.Neg(right); neg != right {
			others = append(others, neg)
		}
		for _, other := range others {
			verifies(t, "another R", zero, s[:], both(pack(t, other), s), api.ErrSign)
		}
	}
}

// P19.4: for any S and any R the sum's own point is reckoned: it is R where the signature holds, and nowhere else.
func TestPointOfNumber(t *testing.T) {
	r := rand.New(rand.NewSource(204))
	for _, x := range some(r) {
		key, right := unpack(t, x.public), unpack(t, x.r)
		numbers := []packed{x.s, {}, {1}, modulus(value(loose(r, 32)))}
		points := []api.Point{right, curve.Zero(), curve.Base(), key, plus(t, right, curve.Base())}
		for _, turn := range turning(t)[1:] {
			points = append(points, plus(t, right, turn))
		}
		for _, s := range numbers {
			for _, p := range points {
				first := pack(t, p)
				k := factor(first, x.public, x.message)
				only := plus(t, times(t, value(s[:]), curve.Base()), times(t, new(big.Int).Sub(order(), k), key))
				want := api.ErrSign
				if only == p {
					want = api.OK
				}
				if (want == api.OK) != (s == x.s && p == right) {
					t.Errorf("the point of %x and %x is %x", s, k, only)
				}
				verifies(t, "the sum's own point", x.public, x.message, both(first, s), want)
			}
		}
	}
}

// P19.4: what was signed is verified by its public bytes, of many seeds and messages, and by no other seed's.
func TestSignedIsVerified(t *testing.T) {
	r := rand.New(rand.NewSource(205))
	last := ed.Public(packed{})
	for range 150 {
		x := sign(packed(loose(r, 32)), loose(r, r.Intn(400)))
		if !scalar.Is(x.s) || !isPoint(x.r) || !isPoint(x.public) {
			t.Errorf("Sign(%x, %x) = %x, %x", x.seed, x.message, x.r, x.s)
		}
		verifies(t, "what was signed", x.public, x.message, both(x.r, x.s), api.OK)
		verifies(t, "another seed's public", last, x.message, both(x.r, x.s), api.ErrSign)
		last = x.public
	}
}

// R1, P19.3: Verify ends and answers one of its four numbers, whatever bytes it is given; if they are of the right form, it says what the library says.
func TestAnyBytes(t *testing.T) {
	r := rand.New(rand.NewSource(206))
	for range 300 {
		public, mark := packed(loose(r, 32)), loose(r, 64)
		mark[63] &= 0x1f
		want := api.ErrSign
		if !isPoint(public) || !isPoint(packed(mark[:32])) {
			want = api.ErrPoint
		}
		verifies(t, "any bytes", public, loose(r, r.Intn(100)), mark, want)
	}
}
