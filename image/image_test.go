package image_test

import (
	"bytes"
	"crypto/ed25519"
	"crypto/sha256"
	"encoding/binary"
	"math"
	"math/big"
	"math/rand"
	"reflect"
	"slices"
	"testing"

	"casemate/api"
	"casemate/image"
)

// top is the greatest number of a manifest.
const top = 2147483647

// key is the Number of the key that signs in these tests.
const key = 7

// seed is one whose bytes all differ, and hang on a number.
func seed(n byte) [32]byte {
	var out [32]byte
	for i := range out {
		out[i] = n + byte(5*i)
	}
	return out
}

// public is the public half of a seed, by the library's signatures.
func public(seed [32]byte) [32]byte {
	return [32]byte(ed25519.NewKeyFromSeed(seed[:])[32:])
}

// number is four bytes of one, the lowest first.
func number(n int) []byte { return binary.LittleEndian.AppendUint32(nil, uint32(n)) }

// sheet is a manifest's bytes, as layer 20 says them.
func sheet(m api.Manifest) []byte {
	b := slices.Concat([]byte("mani"), number(m.Version), number(m.Security), number(m.Key), number(m.Entry), number(len(m.Segments)))
	for _, s := range m.Segments {
		b = append(b, slices.Concat(number(s.Load), number(s.Bytes), s.Digest[:])...)
	}
	return b
}

// signs is bytes, and the library's signature of them.
func signs(seed [32]byte, over []byte) []byte {
	return slices.Concat(over, ed25519.Sign(ed25519.NewKeyFromSeed(seed[:]), over))
}

// filled is a manifest with the lengths and digests of data, by the library's digest.
func filled(m api.Manifest, data [][]byte) api.Manifest {
	m.Segments = slices.Clone(m.Segments)
	for i, d := range data {
		m.Segments[i].Bytes, m.Segments[i].Digest = len(d), sha256.Sum256(d)
	}
	return m
}

// of is a manifest of segments that are loaded there, with nothing said of their data.
func of(loads ...int) api.Manifest {
	m := api.Manifest{Version: 0x01020304, Security: 5, Key: key, Entry: 0x31323334}
	for _, at := range loads {
		m.Segments = append(m.Segments, api.Segment{Load: at})
	}
	return m
}

// behind is a manifest of data that are loaded one behind the other.
func behind(data [][]byte) api.Manifest {
	var loads []int
	at := 0
	for _, d := range data {
		loads = append(loads, at)
		at += len(d)
	}
	return of(loads...)
}

// ring is one with the key of a seed between two others.
func ring(seeds byte) []api.Key {
	return []api.Key{{Number: 3, Bytes: public(seed(100))}, {Number: key, Bytes: public(seed(seeds))}, {Number: 9, Bytes: public(seed(101)), Revoked: true}}
}

// with is a ring of which one thing was made another.
func with(ring []api.Key, turn func([]api.Key)) []api.Key {
	out := slices.Clone(ring)
	turn(out)
	return out
}

// revoked is a ring in which the key of these tests is revoked.
func revoked(r []api.Key) []api.Key {
	return with(r, func(r []api.Key) { r[1].Revoked = true })
}

// many are n bytes that hang on a number.
func many(from byte, n int) []byte {
	out := make([]byte, n)
	for i := range out {
		out[i] = from + byte(i) + byte(i>>8)
	}
	return out
}

// lists are data of no segment, of one, two, and as many as may be: empty, one byte, many.
func lists() [][][]byte {
	out := [][][]byte{nil, {}, {nil}, {{}}, {{0}}, {{0xff}}, {[]byte("the loader")}, {many(3, api.MaxData)}}
	for _, n := range []int{55, 56, 63, 64, 65, 127, 128, 512, 5000} {
		out = append(out, [][]byte{many(7, n)}, [][]byte{many(1, n), many(2, n)}, [][]byte{nil, many(9, n)}, [][]byte{many(9, n), {}})
	}
	var eight [][]byte
	for i := range 8 {
		eight = append(eight, many(byte(20*i), i*i*i))
		out = append(out, slices.Clone(eight))
	}
	return append(out, make([][]byte, 8), [][]byte{{1}, {1}}, [][]byte{{}, {1}, {}, {2}, {}, {3}, {}, {4}})
}

// two are the data that most tests have.
func two() [][]byte { return [][]byte{[]byte("the loader"), []byte("the system")} }

// plan is the manifest of these data, with room between them.
func plan() api.Manifest { return filled(of(16, 64), two()) }

// made is what Make is to answer of a plan.
func made() []byte { return signs(seed(1), sheet(plan())) }

// same says whether two manifests are one, but for a list without elements, which may be nil or not.
func same(a, b api.Manifest) bool {
	return a.Version == b.Version && a.Security == b.Security && a.Key == b.Key && a.Entry == b.Entry && slices.Equal(a.Segments, b.Segments)
}

// alike says whether two launches are one, but for lists without elements.
func alike(a, b api.Launch) bool {
	return a.Slot == b.Slot && a.Entry == b.Entry && a.Security == b.Security && a.Err == b.Err && slices.EqualFunc(a.Loads, b.Loads, func(a, b api.Load) bool {
		return a.At == b.At && bytes.Equal(a.Data, b.Data)
	})
}

// nothing says whether a launch is a struct of noughts.
func nothing(l api.Launch) bool { return alike(l, api.Launch{}) }

// launched is what is launched of a manifest and its data.
func launched(m api.Manifest, data [][]byte) api.Launch {
	l := api.Launch{Entry: m.Entry, Security: m.Security}
	for i, s := range m.Segments {
		l.Loads = append(l.Loads, api.Load{At: s.Load, Data: data[i]})
	}
	return l
}

// makes holds Make to what a manifest and data come to, and answers it.
func makes(t *testing.T, seed [32]byte, m api.Manifest, data [][]byte) []byte {
	t.Helper()
	want := signs(seed, sheet(filled(m, data)))
	b, err := image.Make(seed, m, data)
	if err != api.OK || !bytes.Equal(b, want) {
		t.Errorf("Make(%v, %d data) = %x, %d; want %x", m, len(data), b, err, want)
	}
	return b
}

// wont holds Make to ErrArg, with no bytes.
func wont(t *testing.T, what string, m api.Manifest, data [][]byte) {
	t.Helper()
	if b, err := image.Make(seed(1), m, data); err != api.ErrArg || len(b) != 0 {
		t.Errorf("%s: Make(%v, %d data) = %d bytes, %d; want ErrArg", what, m, len(data), len(b), err)
	}
}

// heads holds Head to a manifest.
func heads(t *testing.T, what string, r []api.Key, fuse int, signed []byte, want api.Manifest) {
	t.Helper()
	if m, err := image.Head(r, fuse, signed); err != api.OK || !same(m, want) {
		t.Errorf("%s: Head(%v, %d, %x) = %v, %d; want %v", what, r, fuse, signed, m, err, want)
	}
}

// checks holds Check to a launch.
func checks(t *testing.T, what string, r []api.Key, fuse int, signed []byte, data [][]byte, want api.Launch) {
	t.Helper()
	if l, err := image.Check(r, fuse, signed, data); err != api.OK || !alike(l, want) {
		t.Errorf("%s: Check(%v, %d, %x, %d data) = %v, %d; want %v", what, r, fuse, signed, len(data), l, err, want)
	}
}

// refuses holds Check to an error, with nothing else.
func refuses(t *testing.T, what string, r []api.Key, fuse int, signed []byte, data [][]byte, want api.Errno) {
	t.Helper()
	if l, err := image.Check(r, fuse, signed, data); err != want || !nothing(l) {
		t.Errorf("%s: Check(%v, %d, %x, %d data) = %v, %d; want %d", what, r, fuse, signed, len(data), l, err, want)
	}
}

// denies holds Head and Check to an error, with nothing else.
func denies(t *testing.T, what string, r []api.Key, fuse int, signed []byte, want api.Errno) {
	t.Helper()
	if m, err := image.Head(r, fuse, signed); err != want || !same(m, api.Manifest{}) {
		t.Errorf("%s: Head(%v, %d, %x) = %v, %d; want %d", what, r, fuse, signed, m, err, want)
	}
	refuses(t, what, r, fuse, signed, two(), want)
}

// P23.1 to P23.3: the chapter's examples.
func TestExamples(t *testing.T) {
	m, data := of(16, 64), two()
	b := makes(t, seed(1), m, data)
	l, err := image.Check(ring(1), 0, b, data)
	want := api.Launch{Entry: 0x31323334, Security: 5, Loads: []api.Load{{At: 16, Data: data[0]}, {At: 64, Data: data[1]}}}
	if err != api.OK || !alike(l, want) {
		t.Errorf("Check = %v, %d; want %v", l, err, want)
	}
	refuses(t, "a key that was revoked", revoked(ring(1)), 0, b, data, api.ErrKey)
	data[1][4] ^= 1
	refuses(t, "a byte that was turned", ring(1), 0, b, data, api.ErrDigest)
}

// P23.1: of no segment, one, two, and as many as may be, of data that are empty, one byte, many.
func TestMake(t *testing.T) {
	for _, data := range lists() {
		makes(t, seed(1), behind(data), data)
	}
	for n := range 9 {
		m := api.Manifest{Segments: make([]api.Segment, n)}
		makes(t, [32]byte{}, m, make([][]byte, n))
		makes(t, seed(byte(n)), m, slices.Repeat([][]byte{{}}, n))
	}
}

// P23.1: where each thing stands in the answer, written out.
func TestMakePlaces(t *testing.T) {
	b, err := image.Make(seed(1), api.Manifest{Version: 1, Security: 2, Key: 3, Entry: 4, Segments: []api.Segment{{Load: 5}}}, [][]byte{[]byte("abc")})
	over := "mani\x01\x00\x00\x00\x02\x00\x00\x00\x03\x00\x00\x00\x04\x00\x00\x00\x01\x00\x00\x00\x05\x00\x00\x00\x03\x00\x00\x00" +
		"\xba\x78\x16\xbf\x8f\x01\xcf\xea\x41\x41\x40\xde\x5d\xae\x22\x23\xb0\x03\x61\xa3\x96\x17\x7a\x9c\xb4\x10\xff\x61\xf2\x00\x15\xad"
	if err != api.OK || len(b) != len(over)+64 || string(b[:len(over)]) != over {
		t.Fatalf("Make = %x, %d; want %x, and a signature", b, err, over)
	}
	its := public(seed(1))
	if !ed25519.Verify(its[:], []byte(over), b[len(over):]) {
		t.Errorf("the signature %x does not hold", b[len(over):])
	}
}

// P23.1: each number at its ends, and segments next to each other, apart, and at the end of what may be.
func TestMakeEdges(t *testing.T) {
	data := two()
	for _, n := range []int{0, 1, 255, 256, 65535, 65536, 1<<24 - 1, 1 << 24, top - 1, top} {
		for _, turn := range []func(*api.Manifest){
			func(m *api.Manifest) { m.Version = n }, func(m *api.Manifest) { m.Security = n }, func(m *api.Manifest) { m.Key = n }, func(m *api.Manifest) { m.Entry = n },
		} {
			m := of(0, 10)
			turn(&m)
			makes(t, seed(1), m, data)
		}
	}
	for _, loads := range [][]int{{0, 10}, {0, 11}, {0, top - 10}, {top - 20, top - 10}, {1, 11}} {
		makes(t, seed(2), of(loads...), data)
	}
	makes(t, seed(2), of(top), [][]byte{nil})
	makes(t, seed(2), of(top-api.MaxData), [][]byte{make([]byte, api.MaxData)})
}

// P23.1: a segment's Bytes and Digest that came in are not looked at.
func TestMakeNotLookedAt(t *testing.T) {
	for _, data := range lists() {
		for _, n := range []int{-1, api.MaxData + 1, math.MaxInt, math.MinInt} {
			m := behind(data)
			for i := range m.Segments {
				m.Segments[i].Bytes, m.Segments[i].Digest = n-i, seed(byte(i))
			}
			makes(t, seed(1), m, data)
		}
	}
}

// P23.1: ErrArg of one datum more and one fewer than there are segments.
func TestMakeCounts(t *testing.T) {
	for n := range 10 {
		m := api.Manifest{Segments: make([]api.Segment, n)}
		for k := range 12 {
			if k != n {
				wont(t, "as many data as there are no segments", m, make([][]byte, k))
			}
		}
		filled := behind(slices.Repeat([][]byte{{1, 2}}, n))
		wont(t, "one more", filled, slices.Repeat([][]byte{{1, 2}}, n+1))
		if n > 0 {
			wont(t, "one fewer", filled, slices.Repeat([][]byte{{1, 2}}, n-1))
			wont(t, "none", filled, nil)
		}
	}
}

// P23.1: ErrArg of manifests that layer 20 does not let be, with the lengths of the data in them.
func TestMakeMayNotBe(t *testing.T) {
	for _, n := range []int{-1, -2, -256, -top, -top - 1, top + 1, top + 2, 1<<32 - 1, 1 << 32, 1<<32 + 7, math.MaxInt, math.MaxInt - 1, math.MinInt, math.MinInt + 1} {
		for _, turn := range []func(*api.Manifest){
			func(m *api.Manifest) { m.Version = n }, func(m *api.Manifest) { m.Security = n }, func(m *api.Manifest) { m.Key = n }, func(m *api.Manifest) { m.Entry = n },
			func(m *api.Manifest) { m.Segments[0].Load = n }, func(m *api.Manifest) { m.Segments[1].Load = n },
		} {
			m := of(0, 64)
			turn(&m)
			wont(t, "a number that may not be", m, two())
			wont(t, "the same with no data", m, [][]byte{nil, nil})
		}
	}
	for n := 9; n < 300; n += 97 {
		wont(t, "too many segments", api.Manifest{Segments: make([]api.Segment, n)}, make([][]byte, n))
	}
	for _, loads := range [][]int{{0, 0}, {0, 9}, {10, 0}, {10, 10}, {10, 19}, {0, top - 9}, {0, top}, {top - 9, top}, {top, top}, {1, 10}} {
		wont(t, "segments that may not be", of(loads...), two())
	}
	wont(t, "a datum too long", of(0), [][]byte{make([]byte, api.MaxData+1)})
	wont(t, "a datum too long, the last one", of(0, 0), [][]byte{nil, make([]byte, api.MaxData+1)})
	wont(t, "a datum at the end", of(top), [][]byte{{1}})
	wont(t, "many bytes at the end", of(top-api.MaxData+1), [][]byte{make([]byte, api.MaxData)})
	m := of(0, 4)
	m.Segments[0].Bytes = 4
	wont(t, "a length that came in would let it be", m, two())
}

// P23.1: the signature is that of the seed.
func TestMakeSeeds(t *testing.T) {
	seen := map[string]bool{}
	for n := range 8 {
		b := makes(t, seed(byte(n)), plan(), two())
		seen[string(b[len(b)-64:])] = true
		heads(t, "the seed's own key", ring(byte(n)), 0, b, plan())
		denies(t, "another seed's key", ring(byte(n+1)), 0, b, api.ErrSign)
	}
	if len(seen) != 8 {
		t.Errorf("%d different signatures, want 8", len(seen))
	}
}

// P23.2, P23.3: of what Make made, whatever the number of segments.
func TestHeadCheck(t *testing.T) {
	for _, data := range lists() {
		m := filled(behind(data), data)
		b := signs(seed(1), sheet(m))
		heads(t, "what was made", ring(1), 5, b, m)
		checks(t, "what was made", ring(1), 5, b, data, launched(m, data))
	}
}

// P23.2, P23.3: a manifest's numbers at their ends are answered as they are; so is a launch's Entry, which need not be in a segment.
func TestHeadNumbers(t *testing.T) {
	data := two()
	for _, m := range []api.Manifest{
		{}, {Version: top}, {Security: top}, {Entry: top}, {Version: 1, Security: 2, Entry: 3}, {Version: top, Security: top, Key: top, Entry: top},
	} {
		m.Segments = []api.Segment{{Load: m.Version / 2}, {Load: top - 10}}
		m = filled(m, data)
		r := []api.Key{{Number: m.Key, Bytes: public(seed(4))}}
		b := signs(seed(4), sheet(m))
		heads(t, "numbers", r, m.Security, b, m)
		checks(t, "numbers", r, m.Security, b, data, launched(m, data))
	}
}

// P23.2: the key is found wherever it stands in a ring, also a full one.
func TestHeadRings(t *testing.T) {
	full := []int{0, 1, 5, 255, 256, 65536, top - 1, top}
	for i, n := range full {
		m := plan()
		m.Key = n
		var r []api.Key
		for k, other := range full {
			r = append(r, api.Key{Number: other, Bytes: public(seed(byte(k))), Revoked: k%2 != i%2})
		}
		b := signs(seed(byte(i)), sheet(m))
		heads(t, "a full ring", r, 0, b, m)
		checks(t, "a full ring", r, 0, b, two(), launched(m, two()))
		denies(t, "the key ahead alone", r[:i], 0, b, api.ErrKey)
		denies(t, "the keys behind alone", r[i+1:], 0, b, api.ErrKey)
		r[i].Revoked = true
		denies(t, "revoked", r, 0, b, api.ErrKey)
	}
}

// P23.2: ErrArg of a ring that may not be.
func TestRingMayNotBe(t *testing.T) {
	good := ring(1)
	nine := make([]api.Key, 9)
	for i := range nine {
		nine[i] = api.Key{Number: i, Bytes: public(seed(1))}
	}
	heads(t, "eight keys", nine[:8], 0, made(), plan())
	for _, r := range [][]api.Key{
		nine, slices.Concat(good, good), {good[1], good[0]}, {good[1], good[1]}, {good[1], good[2], good[2]}, {{Number: -1}, good[1]}, {good[1], {Number: top + 1}}, {{Number: math.MinInt}}, {{Number: math.MaxInt}}, make([]api.Key, 2), make([]api.Key, 300),
	} {
		denies(t, "a ring that may not be", r, 0, made(), api.ErrArg)
		denies(t, "the same with no bytes", r, 0, nil, api.ErrArg)
		denies(t, "the same with a fuse", r, math.MaxInt, made(), api.ErrArg)
	}
}

// P23.2: ErrForm of each beginning of what was made, of bytes more, of fewer than 64 bytes.
func TestForms(t *testing.T) {
	r, b := ring(1), made()
	for n := range b {
		denies(t, "a beginning", r, 0, b[:n], api.ErrForm)
		denies(t, "an end", r, 0, b[n+1:], api.ErrForm)
	}
	for _, more := range [][]byte{{0}, {1}, {0xff}, {b[len(b)-64]}, make([]byte, 40), make([]byte, 64), b[len(b)-64:], b} {
		denies(t, "bytes more", r, 0, slices.Concat(b, more), api.ErrForm)
	}
	denies(t, "a byte ahead", r, 0, slices.Concat([]byte{0}, b), api.ErrForm)
	denies(t, "the manifest alone", r, 0, sheet(plan()), api.ErrForm)
	for n := range 200 {
		denies(t, "noughts", r, 0, make([]byte, n), api.ErrForm)
		denies(t, "erased", r, 0, bytes.Repeat([]byte{0xff}, n), api.ErrForm)
	}
	denies(t, "nil", r, 0, nil, api.ErrForm)
	denies(t, "many bytes", r, 0, make([]byte, 1<<20), api.ErrForm)
}

// P23.2: ErrForm of what the key signed, but is no manifest.
func TestFormsSigned(t *testing.T) {
	var over [][]byte
	for _, turn := range []func(*api.Manifest){
		func(m *api.Manifest) { m.Segments[1].Load = 25 }, func(m *api.Manifest) { m.Segments[1].Load = top - 9 }, func(m *api.Manifest) { m.Segments[1].Bytes = api.MaxData + 1 },
		func(m *api.Manifest) { m.Version = -1 }, func(m *api.Manifest) { m.Security = top + 1 }, func(m *api.Manifest) { m.Key = -1 }, func(m *api.Manifest) { m.Entry = -1 },
		func(m *api.Manifest) { m.Segments = make([]api.Segment, 9) },
	} {
		m := plan()
		turn(&m)
		over = append(over, sheet(m))
	}
	good := sheet(plan())
	over = append(over, nil, []byte("mani"), []byte("Mani"+string(good[4:])), append(slices.Clone(good), 0), good[:len(good)-1], good[1:], good[:len(good)-40], []byte("ring\x00\x00\x00\x00"), []byte("slot\x00\x00\x00\x00\x00"))
	for _, b := range over {
		denies(t, "no manifest, but signed", ring(1), 0, signs(seed(1), b), api.ErrForm)
	}
}

// P23.2: ErrKey with no key of that Number, and with a revoked one, whatever the other keys are.
func TestNoKey(t *testing.T) {
	its := public(seed(1))
	for _, r := range [][]api.Key{
		nil, {}, {{Number: 0, Bytes: its}}, {{Number: key - 1, Bytes: its}, {Number: key + 1, Bytes: its}}, {{Number: top, Bytes: its}}, {{Number: key + 256, Bytes: its}}, {{Number: key, Bytes: its, Revoked: true}},
		{{Number: key, Revoked: true}}, {{Number: 0, Bytes: its}, {Number: key, Bytes: its, Revoked: true}, {Number: 8, Bytes: its}}, revoked(ring(1)), revoked(ring(2)),
	} {
		denies(t, "no key", r, 0, made(), api.ErrKey)
	}
	again := made()
	again[12] = 9
	denies(t, "the number of a key that was revoked", ring(1), 0, again, api.ErrKey)
	again[12] = 8
	denies(t, "the number of no key", ring(1), 0, again, api.ErrKey)
	again[12] = 3
	denies(t, "the number of another key", ring(1), 0, again, api.ErrSign)
}

// P23.2: ErrSign with another key under that Number, one that is no point's among them.
func TestAnotherKey(t *testing.T) {
	r := ring(1)
	for _, its := range [][32]byte{public(seed(2)), public(seed(100)), seed(1), {}, {1}, {2}, {7}, [32]byte(bytes.Repeat([]byte{0xff}, 32))} {
		denies(t, "another key", with(r, func(r []api.Key) { r[1].Bytes = its }), 0, made(), api.ErrSign)
	}
	for i := range 256 {
		if i%16 == 0 || i == 255 {
			denies(t, "a key with a bit turned", with(r, func(r []api.Key) { r[1].Bytes[i/8] ^= 1 << (i % 8) }), 0, made(), api.ErrSign)
		}
	}
	denies(t, "two keys exchanged", with(r, func(r []api.Key) { r[0].Bytes, r[1].Bytes = r[1].Bytes, r[0].Bytes }), 0, made(), api.ErrSign)
}

// reads is what bytes are as a manifest, read by the words of layer 20, and whether they are one.
func reads(b []byte) (api.Manifest, bool) {
	at := func(i int) int { return int(binary.LittleEndian.Uint32(b[i:])) }
	if len(b) < 24 || string(b[:4]) != "mani" || at(20) > 8 || len(b) != 24+40*at(20) {
		return api.Manifest{}, false
	}
	m := api.Manifest{Version: at(4), Security: at(8), Key: at(12), Entry: at(16)}
	ok, end := max(m.Version, m.Security, m.Key, m.Entry) <= top, 0
	for i := range at(20) {
		s := api.Segment{Load: at(24 + 40*i), Bytes: at(28 + 40*i), Digest: [32]byte(b[32+40*i:])}
		ok = ok && s.Bytes <= api.MaxData && s.Load >= end && s.Load+s.Bytes <= top
		end = s.Load + s.Bytes
		m.Segments = append(m.Segments, s)
	}
	return m, ok
}

// P23.2: each byte of the manifest and of the signature turned: ErrSign, or ErrForm where they are no manifest's any more, or ErrKey where it is another key's.
func TestTurned(t *testing.T) {
	b := made()
	at := len(b) - 64
	count := map[api.Errno]int{}
	for i := range b {
		for _, bit := range []byte{1, 0x80, 1 << (i % 7)} {
			b[i] ^= bit
			want := api.ErrSign
			if m, ok := reads(b[:at]); !ok {
				want = api.ErrForm
			} else if m.Key != key && m.Key != 3 {
				want = api.ErrKey
			}
			count[want]++
			denies(t, "turned", ring(1), 0, b, want)
			b[i] ^= bit
		}
	}
	if count[api.ErrSign] < 300 || count[api.ErrForm] == 0 || count[api.ErrKey] == 0 {
		t.Errorf("the errors %v", count)
	}
}

// P23.2: ErrSign of a signature that is another one's, that is no point's, or whose number is not below the order.
func TestSignatures(t *testing.T) {
	over := sheet(plan())
	good := made()[len(over):]
	other := plan()
	other.Version++
	order, _ := new(big.Int).SetString("27742317777372353535851937790883648493", 10)
	order.Add(order, new(big.Int).Lsh(big.NewInt(1), 252))
	s := slices.Clone(good[32:])
	slices.Reverse(s)
	more := new(big.Int).Add(new(big.Int).SetBytes(s), order).FillBytes(make([]byte, 32))
	slices.Reverse(more)
	for _, sign := range [][]byte{
		make([]byte, 64), bytes.Repeat([]byte{0xff}, 64), signs(seed(2), over)[len(over):], signs(seed(1), sheet(other))[len(over):], signs(seed(1), nil), slices.Concat(good[32:], good[:32]),
		slices.Concat(good[:32], more), slices.Concat([]byte{2}, make([]byte, 31), good[32:]), slices.Concat(bytes.Repeat([]byte{0xff}, 32), good[32:]), slices.Concat(good[:32], make([]byte, 32)),
	} {
		denies(t, "another signature", ring(1), 0, slices.Concat(over, sign), api.ErrSign)
	}
	heads(t, "its own signature", ring(1), 0, slices.Concat(over, good), plan())
}

// P23.2: ErrOld of a fuse above its Security alone.
func TestFuse(t *testing.T) {
	for _, security := range []int{0, 1, 5, 64, 256, top - 1, top} {
		m := plan()
		m.Security = security
		b := signs(seed(1), sheet(m))
		for _, fuse := range []int{math.MinInt, -top - 1, -1, 0, security / 2, security - 1, security} {
			if fuse <= security {
				heads(t, "a fuse not above", ring(1), fuse, b, m)
				checks(t, "a fuse not above", ring(1), fuse, b, two(), launched(m, two()))
			}
		}
		for _, fuse := range []int{security + 1, security + 2, 2*security + 1, security + 256, security + 1<<32, 1 << 32, math.MaxInt - 1, math.MaxInt} {
			denies(t, "a fuse above", ring(1), fuse, b, api.ErrOld)
		}
	}
}

// P23.2: it is the Security that is held against the fuse, not another of the numbers.
func TestFuseAgainst(t *testing.T) {
	m := plan()
	m.Version, m.Entry, m.Security = 100, 200, 3
	denies(t, "a greater Version", ring(1), 4, signs(seed(1), sheet(m)), api.ErrOld)
	m.Version, m.Entry, m.Security = 0, 0, 50
	heads(t, "a lower Version", ring(1), 50, signs(seed(1), sheet(m)), m)
}

// wrong are data that are not those of a plan.
func wrong() [][][]byte {
	a, b := two()[0], two()[1]
	turned := func(d []byte, i int) []byte {
		out := slices.Clone(d)
		out[i] ^= 0x10
		return out
	}
	out := [][][]byte{
		nil, {}, {a}, {b}, {a, b, nil}, {a, b, {}}, {a, b, {0}}, {a, b, a}, {nil, a, b}, {a, b, a, b},
		{b, a}, {a, a}, {b, b}, {nil, nil}, {nil, b}, {a, nil}, {a, b[:9]}, {a[:9], b}, {a[1:], b}, {a, b[1:]},
		{append(slices.Clone(a), 0), b}, {a, append(slices.Clone(b), 0)}, {a, append(slices.Clone(b), b...)}, {a, append([]byte{0}, b...)}, {append(slices.Clone(a), b[0]), b[1:]}, {nil, append(slices.Clone(a), b...)},
		make([][]byte, 8), make([][]byte, 300), {make([]byte, 10), b}, {a, make([]byte, 10)}, {a, make([]byte, api.MaxData+1)},
	}
	for i := range a {
		out = append(out, [][]byte{turned(a, i), b}, [][]byte{a, turned(b, i)})
	}
	return out
}

// P23.3: ErrDigest of one datum more and one fewer, of a byte more or less, of a byte turned, of two exchanged.
func TestData(t *testing.T) {
	for _, data := range wrong() {
		refuses(t, "other data", ring(1), 0, made(), data, api.ErrDigest)
	}
	for _, data := range lists() {
		m := filled(behind(data), data)
		b := signs(seed(1), sheet(m))
		refuses(t, "one more", ring(1), 0, b, append(slices.Clone(data), nil), api.ErrDigest)
		if len(data) == 0 {
			continue
		}
		refuses(t, "one fewer", ring(1), 0, b, data[:len(data)-1], api.ErrDigest)
		for i, d := range data {
			other := slices.Clone(data)
			other[i] = append(slices.Clone(d), 0)
			refuses(t, "a byte more", ring(1), 0, b, other, api.ErrDigest)
			if len(d) > 0 {
				other[i] = d[:len(d)-1]
				refuses(t, "a byte less", ring(1), 0, b, other, api.ErrDigest)
				other[i] = slices.Clone(d)
				other[i][len(d)/2] ^= 1
				refuses(t, "a bit turned", ring(1), 0, b, other, api.ErrDigest)
			}
		}
	}
}

// P23.3: ErrDigest where a manifest that was signed says another length, or another digest, of just one segment.
func TestSegmentsSay(t *testing.T) {
	for i := range 2 {
		for _, turn := range []func(*api.Segment){
			func(s *api.Segment) { s.Bytes++ }, func(s *api.Segment) { s.Bytes-- }, func(s *api.Segment) { s.Bytes = 0 }, func(s *api.Segment) { s.Bytes += 4 },
			func(s *api.Segment) { s.Digest[0] ^= 1 }, func(s *api.Segment) { s.Digest[31] ^= 0x80 }, func(s *api.Segment) { s.Digest[15] ^= 8 }, func(s *api.Segment) { s.Digest = [32]byte{} },
			func(s *api.Segment) { s.Digest = sha256.Sum256(nil) },
		} {
			m := plan()
			turn(&m.Segments[i])
			b := signs(seed(1), sheet(m))
			heads(t, "another segment", ring(1), 0, b, m)
			refuses(t, "another segment", ring(1), 0, b, two(), api.ErrDigest)
		}
	}
	m := plan()
	m.Segments = m.Segments[:0]
	checks(t, "no segment", ring(1), 0, signs(seed(1), sheet(m)), nil, launched(m, nil))
	refuses(t, "no segment, but data", ring(1), 0, signs(seed(1), sheet(m)), two(), api.ErrDigest)
}

// try is what Check is called with.
type try struct {
	ring   []api.Key
	fuse   int
	signed []byte
	data   [][]byte
}

// fault is what makes a try go wrong; those of one kind are answered by the same error.
type fault func(*try)

// faults are these, the kinds in the order in which they are to be answered.
func faults() ([][]fault, []api.Errno) {
	kinds := [][]fault{
		{
			func(c *try) { c.ring = append(c.ring, api.Key{Number: 3}, api.Key{Number: 3}) },
			func(c *try) { c.ring = append(c.ring, make([]api.Key, 9)...) },
			func(c *try) { c.ring = append([]api.Key{{Number: -1}}, c.ring...) },
			func(c *try) { c.ring = append(c.ring, api.Key{Number: top + 1}) },
		}, {
			func(c *try) { c.signed = nil },
			func(c *try) { c.signed = c.signed[:63] },
			func(c *try) { c.signed = c.signed[:len(c.signed)-1] },
			func(c *try) { c.signed = append(c.signed, 0) },
			func(c *try) { c.signed[0] = 'M' },
			func(c *try) { c.signed[7] ^= 0x80 },
		}, {
			func(c *try) { c.ring[1].Revoked = true },
			func(c *try) { c.ring = slices.Delete(c.ring, 1, 2) },
			func(c *try) { c.ring = nil },
		}, {
			func(c *try) { c.signed[4] ^= 1 },
			func(c *try) { c.signed[len(c.signed)-64] ^= 1 },
			func(c *try) { c.signed[len(c.signed)-1] ^= 0x80 },
			func(c *try) { c.ring[1].Bytes = public(seed(2)) },
		}, {
			func(c *try) { c.fuse = 6 },
			func(c *try) { c.fuse = math.MaxInt },
		}, {
			func(c *try) { c.data = c.data[:1] },
			func(c *try) { c.data = append(c.data, nil) },
			func(c *try) { c.data = [][]byte{c.data[1], c.data[0]} },
			func(c *try) { c.data[1] = append(c.data[1], 0) },
			func(c *try) { c.data[0] = c.data[0][1:] },
			func(c *try) { c.data[0][3] ^= 1 },
		},
	}
	return kinds, []api.Errno{api.ErrArg, api.ErrForm, api.ErrKey, api.ErrSign, api.ErrOld, api.ErrDigest}
}

// P23.2, P23.3: which error comes where more than one thing is wrong: each choice of them.
func TestOrder(t *testing.T) {
	r := rand.New(rand.NewSource(232))
	kinds, codes := faults()
	for mask := range 1 << len(kinds) {
		for range 12 {
			c := try{ring(1), 5, made(), two()}
			want := api.OK
			for i := len(kinds) - 1; i >= 0; i-- { // from the last to the first, as those ahead leave less to those behind
				if mask>>i&1 == 1 {
					kinds[i][r.Intn(len(kinds[i]))](&c)
					want = codes[i]
				}
			}
			if want == api.OK {
				checks(t, "nothing wrong", c.ring, c.fuse, c.signed, c.data, launched(plan(), two()))
				continue
			}
			refuses(t, "things wrong", c.ring, c.fuse, c.signed, c.data, want)
			m, err := image.Head(c.ring, c.fuse, c.signed)
			if want == api.ErrDigest && (err != api.OK || !same(m, plan())) || want != api.ErrDigest && (err != want || !same(m, api.Manifest{})) {
				t.Errorf("Head(%v, %d, %x) = %v, %d; want the error of Check, %d", c.ring, c.fuse, c.signed, m, err, want)
			}
		}
	}
}

// P23.3: a launch's Slot, Entry, Security and Err, and of each segment where it is loaded and its data.
func TestLaunch(t *testing.T) {
	data := [][]byte{[]byte("first"), nil, []byte("third"), {0}}
	m := of(100, 105, 4096, top-1)
	m.Entry, m.Security, m.Version = 77, 9, 3
	b := makes(t, seed(1), m, data)
	l, err := image.Check(ring(1), 9, b, data)
	if err != api.OK || l.Slot != 0 || l.Entry != 77 || l.Security != 9 || l.Err != api.OK || len(l.Loads) != 4 {
		t.Fatalf("Check = %v, %d", l, err)
	}
	for i, at := range []int{100, 105, 4096, top - 1} {
		if l.Loads[i].At != at || !bytes.Equal(l.Loads[i].Data, data[i]) {
			t.Errorf("load %d = %v; want %d, %x", i, l.Loads[i], at, data[i])
		}
	}
}

// loose is a manifest of any numbers, with data, for a key.
func loose(r *rand.Rand, number int) (api.Manifest, [][]byte) {
	m := api.Manifest{Version: r.Intn(1 << 31), Security: r.Intn(20), Key: number, Entry: r.Intn(1 << 31)}
	var data [][]byte
	at := 0
	for range r.Intn(9) {
		d := make([]byte, r.Intn(3)*r.Intn(200))
		r.Read(d)
		data = append(data, d)
		s := api.Segment{Load: at + r.Intn(2)*r.Intn(1<<20), Bytes: r.Int(), Digest: seed(byte(at))}
		m.Segments = append(m.Segments, s)
		at = s.Load + len(d)
	}
	return m, data
}

// P23.4: what Make made is launched with a ring that has the seed's public bytes under the Key, not revoked, and a fuse not above its Security; else not.
func TestLaunched(t *testing.T) {
	r := rand.New(rand.NewSource(234))
	for range 60 {
		var its [32]byte
		r.Read(its[:])
		m, data := loose(r, 3*r.Intn(1000)+1)
		b := makes(t, its, m, data)
		keys := []api.Key{{Number: m.Key - 1, Bytes: seed(1)}, {Number: m.Key, Bytes: public(its)}, {Number: m.Key + 1}}
		fuse := r.Intn(25)
		if fuse > m.Security {
			refuses(t, "a greater fuse", keys, fuse, b, data, api.ErrOld)
		} else {
			checks(t, "what was made", keys, fuse, b, data, launched(m, data))
		}
		checks(t, "the Security as the fuse", keys, m.Security, b, data, launched(m, data))
		refuses(t, "a fuse one above", keys, m.Security+1, b, data, api.ErrOld)
		keys[1].Revoked = true
		refuses(t, "revoked", keys, 0, b, data, api.ErrKey)
		refuses(t, "revoked, and a greater fuse", keys, 30, b, data, api.ErrKey)
	}
}

// roomy is a list with spare room behind it, and the list with that room.
func roomy(b []byte) ([]byte, []byte) {
	long := append(slices.Clone(b), many(0xa0, 200)...)
	return long[:len(b)], long
}

// R2: what was handed in stays as it was, and its spare room, also where an error is answered.
func TestInStays(t *testing.T) {
	kinds, _ := faults()
	all := append(slices.Concat(kinds...), func(*try) {})
	for _, turn := range all {
		c := try{ring(1), 5, made(), two()}
		turn(&c)
		signed, longSigned := roomy(c.signed)
		keys := append(slices.Clone(c.ring), api.Key{Number: 1}, api.Key{Number: 2})
		data := append(slices.Clone(c.data), []byte("spare"), []byte("room"))
		var longs [][]byte
		for i := range c.data {
			var long []byte
			data[i], long = roomy(c.data[i])
			longs = append(longs, long)
		}
		wasSigned, wasKeys, wasData, wasLongs := slices.Clone(longSigned), slices.Clone(keys), copies(data), copies(longs)
		image.Head(keys[:len(c.ring)], c.fuse, signed)
		image.Check(keys[:len(c.ring)], c.fuse, signed, data[:len(c.data)])
		m := of(16, 64)
		m.Segments = append(m.Segments, api.Segment{Load: 1, Bytes: 2}, api.Segment{Load: 3})
		wasSegments := slices.Clone(m.Segments)
		m.Segments = m.Segments[:2]
		image.Make(seed(1), m, data[:len(c.data)])
		if !bytes.Equal(longSigned, wasSigned) || !slices.Equal(keys, wasKeys) || !reflect.DeepEqual(data, wasData) || !reflect.DeepEqual(longs, wasLongs) || !slices.Equal(m.Segments[:4], wasSegments) {
			t.Errorf("what was handed in is now %x, %v, %x, %v", longSigned, keys, longs, m.Segments[:4])
		}
	}
}

// copies is a list of lists that shares nothing with it.
func copies(lists [][]byte) [][]byte {
	var out [][]byte
	for _, b := range lists {
		out = append(out, slices.Clone(b))
	}
	return out
}

// spoil writes over a list and its spare room.
func spoil(b []byte) {
	b = b[:cap(b)]
	for i := range b {
		b[i] = 0xee
	}
}

// R2: what comes out is new memory: it stays as it was, whatever becomes of what went in, and of other parts of the answer.
func TestOutIsNew(t *testing.T) {
	data, r, m := two(), ring(1), of(16, 64)
	b, _ := image.Make(seed(1), m, data)
	back, _ := image.Head(r, 0, b)
	l, _ := image.Check(r, 0, b, data)
	was := slices.Clone(b)
	spoil(data[0])
	spoil(data[1])
	clear(m.Segments)
	clear(r)
	if !bytes.Equal(b, was) || !same(back, plan()) || !alike(l, launched(plan(), two())) {
		t.Errorf("the answers are now %x, %v, %v", b, back, l)
	}
	spoil(b)
	if !same(back, plan()) || !alike(l, launched(plan(), two())) {
		t.Errorf("the answers are now %v, %v", back, l)
	}
	clear(back.Segments)
	spoil(l.Loads[0].Data)
	if !bytes.Equal(l.Loads[1].Data, two()[1]) {
		t.Errorf("the second load is now %x", l.Loads[1].Data)
	}
}

// R2: data that share memory with each other come out as lists that don't; data that come out are not those that went in.
func TestOutApart(t *testing.T) {
	shared := []byte("one and the same")
	data := [][]byte{shared, shared, shared[4:]}
	m := filled(of(0, 16, 32), data)
	b := signs(seed(1), sheet(m))
	l, err := image.Check(ring(1), 0, b, data)
	if err != api.OK || !alike(l, launched(m, data)) {
		t.Fatalf("Check = %v, %d", l, err)
	}
	spoil(l.Loads[0].Data)
	if string(shared) != "one and the same" || string(l.Loads[1].Data) != "one and the same" || string(l.Loads[2].Data) != "and the same" {
		t.Errorf("now %q, %q, %q", shared, l.Loads[1].Data, l.Loads[2].Data)
	}
	spoil(l.Loads[1].Data)
	if string(l.Loads[2].Data) != "and the same" {
		t.Errorf("now %q", l.Loads[2].Data)
	}
}

// R2: one call does not hang on those ahead of it.
func TestCallsAlone(t *testing.T) {
	for range 3 {
		checks(t, "again", ring(1), 5, made(), two(), launched(plan(), two()))
		denies(t, "old", ring(1), 6, made(), api.ErrOld)
		heads(t, "again", ring(1), 5, made(), plan())
		denies(t, "revoked", revoked(ring(1)), 5, made(), api.ErrKey)
		refuses(t, "no data", ring(1), 5, made(), nil, api.ErrDigest)
		makes(t, seed(1), of(16, 64), two())
		wont(t, "no data", of(16, 64), nil)
	}
}
