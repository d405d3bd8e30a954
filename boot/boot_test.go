package boot_test

import (
	"bytes"
	"crypto/ed25519"
	"crypto/sha256"
	"encoding/binary"
	"maps"
	"math"
	"math/rand"
	"slices"
	"testing"

	"casemate/api"
	"casemate/attach"
	"casemate/boot"
	"casemate/chip"
	"casemate/drive"
	"casemate/store"
)

// key is the Number of the key that signs in these tests.
const key = 7

// lebs is how many logical blocks are booted from.
const lebs = 11

// change is how many deeds it takes to change what is known of the slots, where no block fails: the erasing, the head, the bytes.
const change = 3

// contents are what logical blocks have; where one has none, it is not among them.
type contents map[int][]byte

// image is what a slot has: a signed manifest, and its segments.
type image struct {
	signed []byte
	parts  [][]byte
}

// seed is one whose bytes all differ, and hang on a number.
func seed(n byte) [32]byte {
	var out [32]byte
	for i := range out {
		out[i] = n + byte(5*i)
	}
	return out
}

// public is the public half of a seed, by the library's signatures.
func public(seed [32]byte) [32]byte {
	return [32]byte(ed25519.NewKeyFromSeed(seed[:])[32:])
}

// ring is one with the key of these tests between two others, the last one revoked.
func ring() []api.Key {
	return []api.Key{{Number: 3, Bytes: public(seed(100))}, {Number: key, Bytes: public(seed(1))}, {Number: 9, Bytes: public(seed(101)), Revoked: true}}
}

// number is four bytes of one, the lowest first.
func number(n int) []byte { return binary.LittleEndian.AppendUint32(nil, uint32(n)) }

// sheet is a manifest's bytes, as layer 20 says them.
func sheet(m api.Manifest) []byte {
	b := slices.Concat([]byte("mani"), number(m.Version), number(m.Security), number(m.Key), number(m.Entry), number(len(m.Segments)))
	for _, s := range m.Segments {
		b = append(b, slices.Concat(number(s.Load), number(s.Bytes), s.Digest[:])...)
	}
	return b
}

// signs is bytes, and the library's signature of them.
func signs(seed [32]byte, over []byte) []byte {
	return slices.Concat(over, ed25519.Sign(ed25519.NewKeyFromSeed(seed[:]), over))
}

// signedBy is an image of parts, with a Security, by the key of a number and a seed.
func signedBy(number int, by [32]byte, security int, parts ...[]byte) image {
	m := api.Manifest{Version: 1, Security: security, Key: number, Entry: 500 + security}
	for i, p := range parts {
		m.Segments = append(m.Segments, api.Segment{Load: 1000 * (i + 1), Bytes: len(p), Digest: sha256.Sum256(p)})
	}
	return image{signs(by, sheet(m)), parts}
}

// of is an image of parts, with a Security, that the key of these tests signed.
func of(security int, parts ...[]byte) image { return signedBy(key, seed(1), security, parts...) }

// two are an image's parts that hang on a text.
func two(text string) [][]byte { return [][]byte{[]byte(text + ", loader"), []byte(text + ", system")} }

// place is the logical block of a slot's manifest, with -1, or of a segment.
func place(slot, segment int) int { return 1 + 5*slot + 1 + segment }

// lay lays an image into a slot's logical blocks.
func (c contents) lay(slot int, i image) {
	c[place(slot, -1)] = i.signed
	for n, p := range i.parts {
		c[place(slot, n)] = p
	}
}

// state is what is known of slots: which is first, and of both how many tries are left, or -1 if it is good.
func state(first, zero, one int) api.Slots {
	s := api.Slots{First: first}
	for i, n := range []int{zero, one} {
		s.Two[i] = api.Slot{Tries: max(n, 0), Good: n < 0}
	}
	return s
}

// known is the nine bytes of that, as layer 22 says them.
func known(s api.Slots) []byte {
	good := map[bool]byte{true: 1}
	return append([]byte("slot"), byte(s.First), byte(s.Two[0].Tries), good[s.Two[0].Good], byte(s.Two[1].Tries), good[s.Two[1].Good])
}

// pair are contents of what is known and an image in each slot.
func pair(s api.Slots, zero, one image) contents {
	c := contents{0: known(s)}
	c.lay(0, zero)
	c.lay(1, one)
	return c
}

// good are contents of two images that may be launched.
func good(s api.Slots) contents { return pair(s, of(4, two("zero")...), of(6, two("one")...)) }

// is holds an error against the one that is asked for.
func is(t *testing.T, what string, got, want api.Errno) {
	t.Helper()
	if got != want {
		t.Fatalf("%s = %d, want %d", what, got, want)
	}
}

// shape is that of the chips here: a logical block has 512 bytes, so that a manifest of eight segments has room.
func shape() api.Geometry {
	return api.Geometry{Blocks: 16, Pages: 5, Sectors: 1, Bytes: 128, Flips: 1}
}

// rig is a chip, and a store on it.
type rig struct {
	c *chip.Chip
	d *drive.Drive
	s *store.Store
}

// bare is a rig of a chip that was just made, with so many logical blocks.
func bare(t *testing.T, n int) rig {
	t.Helper()
	c, err := chip.New(shape(), nil)
	is(t, "chip.New", err, api.OK)
	d, err := drive.New(c)
	is(t, "drive.New", err, api.OK)
	s, err := store.Open(d, n)
	is(t, "store.Open", err, api.OK)
	return rig{c, d, s}
}

// with is a rig whose logical blocks have these contents.
func with(t *testing.T, c contents) rig {
	t.Helper()
	r := bare(t, lebs)
	for _, leb := range slices.Sorted(maps.Keys(c)) {
		r.put(t, leb, c[leb])
	}
	return r
}

// put changes a logical block.
func (r rig) put(t *testing.T, leb int, data []byte) {
	t.Helper()
	is(t, "store.Change", r.s.Change(leb, data), api.OK)
}

// again is the rig with power, and the store opened anew.
func (r rig) again(t *testing.T) rig {
	t.Helper()
	r.c.Arm(0, 0)
	r.c.On()
	s, err := store.Open(r.d, lebs)
	is(t, "store.Open", err, api.OK)
	return rig{r.c, r.d, s}
}

// has is what the logical blocks have, as far as they are read.
func (r rig) has(t *testing.T) contents {
	t.Helper()
	out := contents{}
	for leb := range lebs {
		b, _, err := r.s.Read(leb)
		if err == api.OK {
			out[leb] = b
		}
	}
	return out
}

// stands are the blocks that stand for the logical blocks.
func (r rig) stands(t *testing.T) []int {
	t.Helper()
	found, err := attach.Scan(r.d)
	is(t, "attach.Scan", err, api.OK)
	out, _, err := attach.Pick(lebs, found)
	is(t, "attach.Pick", err, api.OK)
	return out
}

// full marks all blocks that stand for no logical block, so that nothing can be changed any more.
func (r rig) full(t *testing.T) {
	t.Helper()
	stands := r.stands(t)
	for block := range shape().Blocks {
		if !slices.Contains(stands, block) {
			is(t, "chip.Mark", r.c.Mark(block), api.OK)
		}
	}
}

// same says whether two contents are one.
func same(a, b contents) bool {
	return maps.EqualFunc(a, b, func(x, y []byte) bool { return bytes.Equal(x, y) })
}

// alike says whether two launches are one, but for lists without elements.
func alike(a, b api.Launch) bool {
	return a.Slot == b.Slot && a.Entry == b.Entry && a.Security == b.Security && a.Err == b.Err && slices.EqualFunc(a.Loads, b.Loads, func(a, b api.Load) bool {
		return a.At == b.At && bytes.Equal(a.Data, b.Data)
	})
}

// launched is what an image in a slot is launched as.
func launched(slot, security int, parts ...[]byte) api.Launch {
	l := api.Launch{Slot: slot, Entry: 500 + security, Security: security}
	for i, p := range parts {
		l.Loads = append(l.Loads, api.Load{At: 1000 * (i + 1), Data: p})
	}
	return l
}

// failed is a launch with an error, and noughts else.
func failed(err api.Errno) api.Launch { return api.Launch{Err: err} }

// boots holds Boot to a launch.
func boots(t *testing.T, what string, s *store.Store, keys []api.Key, fuse int, want api.Launch) {
	t.Helper()
	if l := boot.Boot(s, keys, fuse); !alike(l, want) {
		t.Errorf("%s: Boot(.., %d) = %v; want %v", what, fuse, l, want)
	}
}

// states holds State to what is known.
func states(t *testing.T, what string, s *store.Store, want api.Slots) {
	t.Helper()
	if x, err := boot.State(s); err != api.OK || x != want {
		t.Errorf("%s: State = %v, %d; want %v", what, x, err, want)
	}
}

// unknown holds State to an error, with nothing else, and Boot to a launch of that error.
func unknown(t *testing.T, what string, s *store.Store, want api.Errno) {
	t.Helper()
	if x, err := boot.State(s); err != want || x != (api.Slots{}) {
		t.Errorf("%s: State = %v, %d; want %d", what, x, err, want)
	}
	boots(t, what, s, ring(), 0, failed(want))
}

// still fails if a call did a deed; where it does one, the power goes.
func (r rig) still(t *testing.T, what string, call func()) {
	t.Helper()
	r.c.Arm(1, 0)
	call()
	if !r.c.Up() {
		t.Errorf("%s: something was changed", what)
	}
	r.c.Arm(0, 0)
}

// every are all that may be known of slots, but for some numbers of tries.
func every() []api.Slots {
	var out []api.Slots
	for first := range 2 {
		for _, zero := range []int{0, 1, 2, 7} {
			for _, one := range []int{0, 1, 2, 7} {
				for _, flags := range [][2]bool{{false, false}, {false, true}, {true, false}, {true, true}} {
					out = append(out, api.Slots{First: first, Two: [2]api.Slot{{Tries: zero, Good: flags[0]}, {Tries: one, Good: flags[1]}}})
				}
			}
		}
	}
	return out
}

// outside are numbers that are far from all that may be, and some that wrap round to those.
func outside() []int {
	return []int{-2, -3, -4, -5, -6, -7, 65, 127, 128, 255, 256, 257, -255, -256, 1 << 16, 1<<31 - 1, 1 << 31, 1 << 32, 1<<32 + 1, -1 << 31, -1 << 32, 1<<62 + 1, math.MaxInt, math.MaxInt - 1, math.MinInt, math.MinInt + 1}
}

// P24.1 to P24.3: the chapter's examples.
func TestExamples(t *testing.T) {
	if n, err := boot.Leb(1, -1); n != 6 || err != api.OK {
		t.Errorf("Leb(1, -1) = %d, %d", n, err)
	}
	if n, err := boot.Leb(1, 3); n != 10 || err != api.OK {
		t.Errorf("Leb(1, 3) = %d, %d", n, err)
	}
	if n, err := boot.Leb(2, 0); n != 0 || err != api.ErrArg {
		t.Errorf("Leb(2, 0) = %d, %d", n, err)
	}
	boots(t, "an empty store", bare(t, lebs).s, ring(), 0, failed(api.ErrSlot))
	if x, err := boot.State(nil); err != api.ErrNil || x != (api.Slots{}) {
		t.Errorf("State(nil) = %v, %d", x, err)
	}
}

// P24.1: each slot and segment that there may be.
func TestLeb(t *testing.T) {
	want := 1
	for slot := range 2 {
		for segment := -1; segment <= 3; segment++ {
			if n, err := boot.Leb(slot, segment); n != want || err != api.OK {
				t.Errorf("Leb(%d, %d) = %d, %d; want %d", slot, segment, n, err, want)
			}
			want++
		}
	}
	if want != lebs {
		t.Errorf("%d logical blocks, want %d", want, lebs)
	}
}

// P24.1: ErrArg beside them, and far from them.
func TestLebMayNotBe(t *testing.T) {
	refuse := func(slot, segment int) {
		if n, err := boot.Leb(slot, segment); n != 0 || err != api.ErrArg {
			t.Errorf("Leb(%d, %d) = %d, %d; want ErrArg", slot, segment, n, err)
		}
	}
	slots, segments := append(outside(), -1, 2, 3), append(outside(), 4, 5, 6)
	for _, slot := range slots {
		for segment := -3; segment < 7; segment++ {
			refuse(slot, segment)
		}
		for _, segment := range segments {
			refuse(slot, segment)
		}
	}
	for _, segment := range segments {
		refuse(0, segment)
		refuse(1, segment)
	}
}

// P24.1: what is known, whatever it is, of a store of 11 logical blocks and of more.
func TestState(t *testing.T) {
	for _, n := range []int{11, 12, 13, 63, 64} {
		r := bare(t, n)
		states(t, "nothing", r.s, api.Slots{})
		for _, s := range every() {
			r.put(t, 0, known(s))
			states(t, "slots", r.s, s)
			if n == 12 {
				r.still(t, "State", func() { boot.State(r.s) })
			}
		}
	}
}

// P24.1: ErrNil, and ErrArg of too few logical blocks, whatever they have; that is ahead of ErrDown.
func TestStateMayNotBe(t *testing.T) {
	unknown(t, "nil", nil, api.ErrNil)
	for n := 1; n < lebs; n++ {
		r := bare(t, n)
		unknown(t, "too few", r.s, api.ErrArg)
		r.put(t, 0, known(state(0, -1, -1)))
		r.still(t, "too few", func() { unknown(t, "too few", r.s, api.ErrArg) })
		r.c.Off()
		unknown(t, "too few, and no power", r.s, api.ErrArg)
		r.s.Read(0)
		unknown(t, "too few, and down", r.s, api.ErrArg)
	}
}

// P24.1: nothing is known where there are bytes that are no slots; they stay.
func TestStateOfOtherBytes(t *testing.T) {
	r := bare(t, lebs)
	check := func(b []byte) {
		t.Helper()
		r.put(t, 0, b)
		states(t, "other bytes", r.s, api.Slots{})
		r.still(t, "other bytes", func() { boots(t, "other bytes", r.s, ring(), 0, failed(api.ErrSlot)) })
		if got, _, err := r.s.Read(0); err != api.OK || !bytes.Equal(got, b) {
			t.Errorf("the logical block 0 has %x, %d; want %x", got, err, b)
		}
	}
	whole := known(state(1, 3, -1))
	for n := range whole {
		check(whole[:n])
	}
	for i, most := range []byte{0, 0, 0, 0, 1, 7, 1, 7, 1} {
		b := slices.Clone(whole)
		b[i] = most + 1
		check(b)
		b[i] = 0xff
		check(b)
	}
	check(append(slices.Clone(whole), 0))
	check(append([]byte{0}, whole...))
	check(slices.Concat(whole, whole))
	check(make([]byte, 9))
	check(make([]byte, 512))
	check(of(1).signed)
}

// P24.1: nothing is known where the logical block 0 is read with an error that is not ErrDown.
func TestStateUnread(t *testing.T) {
	r := with(t, good(state(0, -1, -1)))
	block := r.stands(t)[0]
	r.c.Flip(block, 1, []int{0, 2})
	if _, _, err := r.s.Read(0); err != api.ErrFlips {
		t.Fatalf("Read(0) = %d; want ErrFlips", err)
	}
	states(t, "too many flips", r.s, api.Slots{})
	boots(t, "too many flips", r.s, ring(), 0, failed(api.ErrSlot))
	r.c.Flip(block, 1, nil)
	boots(t, "no flips any more", r.s, ring(), 0, launched(0, 4, two("zero")...))
	is(t, "Mark", r.c.Mark(block), api.OK)
	states(t, "a marked block", r.s, api.Slots{})
	boots(t, "a marked block", r.s, ring(), 0, failed(api.ErrSlot))
	r.put(t, 0, known(state(0, -1, -1)))
	is(t, "Unmap", r.s.Unmap(0), api.OK)
	states(t, "no bytes any more", r.s, api.Slots{})
	boots(t, "no bytes any more", r.s, ring(), 0, failed(api.ErrSlot))
}

// P24.1, P24.2: ErrDown, also when there is power again, till the store is opened anew.
func TestDown(t *testing.T) {
	r := with(t, good(state(1, -1, -1)))
	r.c.Off()
	unknown(t, "no power", r.s, api.ErrDown)
	r.c.On()
	unknown(t, "power again", r.s, api.ErrDown)
	boots(t, "opened anew", r.again(t).s, ring(), 0, launched(1, 6, two("one")...))
	r = with(t, good(state(1, -1, -1)))
	is(t, "Unmap", r.s.Unmap(0), api.OK)
	r.c.Arm(1, 0)
	is(t, "Change", r.s.Change(5, nil), api.ErrDown)
	r.c.On()
	unknown(t, "down, and nothing there", r.s, api.ErrDown)
	states(t, "opened anew", r.again(t).s, api.Slots{})
}

// turned is what is known behind a Try of a slot.
func turned(s api.Slots, slot int) api.Slots {
	if !s.Two[slot].Good {
		s.Two[slot].Tries--
	}
	return s
}

// inOrder are the slots that may be tried.
func inOrder(s api.Slots) []int {
	var out []int
	for _, slot := range []int{s.First, 1 - s.First} {
		if s.Two[slot].Good || s.Two[slot].Tries > 0 {
			out = append(out, slot)
		}
	}
	return out
}

// P24.2: whatever is known of the slots, the first one that may be tried is launched, with one try less if it is not good; the logical block 0 is left alone where that turns nothing.
func TestBoot(t *testing.T) {
	r := with(t, good(api.Slots{}))
	for _, s := range every() {
		r.put(t, 0, known(s))
		order := inOrder(s)
		if len(order) == 0 {
			r.still(t, "no slot", func() { boots(t, "no slot", r.s, ring(), 0, failed(api.ErrSlot)) })
			states(t, "no slot", r.s, s)
			continue
		}
		want := launched(0, 4, two("zero")...)
		if order[0] == 1 {
			want = launched(1, 6, two("one")...)
		}
		if s.Two[order[0]].Good {
			r.still(t, "a good slot", func() { boots(t, "a good slot", r.s, ring(), 4, want) })
		} else {
			boots(t, "a slot with tries", r.s, ring(), 4, want)
		}
		states(t, "behind a launch", r.s, turned(s, order[0]))
	}
	last := every()[len(every())-1]
	if !same(r.has(t), good(turned(last, last.First))) {
		t.Errorf("the logical blocks are now %x", r.has(t))
	}
}

// P24.2: where no slot may be launched, each one that may be tried has one try less, the second one behind the first.
func TestBootTakesTries(t *testing.T) {
	r := with(t, pair(api.Slots{}, image{signed: nil}, image{signed: make([]byte, 63)}))
	for _, s := range every() {
		r.put(t, 0, known(s))
		boots(t, "none holds", r.s, ring(), 0, failed(api.ErrSlot))
		want := s
		for _, slot := range inOrder(s) {
			want = turned(want, slot)
		}
		states(t, "none holds", r.s, want)
	}
	r.put(t, 0, known(state(0, -1, -1)))
	r.still(t, "good, but none holds", func() { boots(t, "none holds", r.s, ring(), 0, failed(api.ErrSlot)) })
}

// P24.2: a launch has the slot, and what its manifest says: of no segment, one, and as many as a slot has room for; of no bytes, one, as many as a logical block may have.
func TestLaunch(t *testing.T) {
	long := bytes.Repeat([]byte{0xc5, 1, 2}, 171)[:512]
	for _, parts := range [][][]byte{
		nil, {nil}, {{0}}, {long}, two("a"), {nil, nil, nil, nil}, {{1}, nil, {2}, nil}, {long, {0xff}, long, {1, 2, 3}}, {nil, long, nil}, {{1}, {1}, {1}, {1}},
	} {
		for slot := range 2 {
			c := contents{0: known(state(1-slot, 1, 1))}
			c.lay(slot, of(3, parts...))
			r := with(t, c)
			boots(t, "a launch", r.s, ring(), 3, launched(slot, 3, parts...))
			c[0] = known(state(1-slot, 0, 0))
			if !same(r.has(t), c) {
				t.Errorf("the logical blocks are now %x; want %x", r.has(t), c)
			}
		}
	}
}

// P24.2: numbers of a manifest at their ends; what else the slot's logical blocks have is no matter.
func TestLaunchNumbers(t *testing.T) {
	top := 1<<31 - 1
	for _, m := range []api.Manifest{{}, {Version: top}, {Security: top}, {Entry: top}, {Version: top, Security: top, Key: top, Entry: top}} {
		part := []byte("the only one")
		m.Segments = []api.Segment{{Load: top - len(part), Bytes: len(part), Digest: sha256.Sum256(part)}}
		c := contents{0: known(state(0, -1, 0)), place(0, 1): []byte("an old segment"), place(0, 3): nil, place(1, -1): {1, 2, 3}}
		c.lay(0, image{signs(seed(1), sheet(m)), [][]byte{part}})
		keys := []api.Key{{Number: m.Key, Bytes: public(seed(1))}}
		want := api.Launch{Entry: m.Entry, Security: m.Security, Loads: []api.Load{{At: top - len(part), Data: part}}}
		boots(t, "numbers", with(t, c).s, keys, m.Security, want)
		boots(t, "numbers", with(t, c).s, keys, math.MinInt, want)
		boots(t, "a greater fuse", with(t, c).s, keys, m.Security+1, failed(api.ErrSlot))
		boots(t, "a greater fuse", with(t, c).s, keys, math.MaxInt, failed(api.ErrSlot))
	}
}

// fault is a way in which a slot's logical blocks are no image that may be launched with the ring and the fuse 4.
type fault struct {
	what string
	make func(c contents, slot int)
}

// lays is a fault in which another image is laid.
func lays(what string, i image) fault {
	return fault{what, func(c contents, slot int) { c.lay(slot, i) }}
}

// turns is a fault in which one of a slot's logical blocks is turned to other bytes.
func turns(what string, segment int, turn func([]byte) []byte) fault {
	return fault{what, func(c contents, slot int) { c[place(slot, segment)] = turn(slices.Clone(c[place(slot, segment)])) }}
}

// gone is a fault in which one of a slot's logical blocks has no bytes at all, nor a block.
func gone(what string, segment int) fault {
	return fault{what, func(c contents, slot int) { delete(c, place(slot, segment)) }}
}

// many are so many parts.
func many(n int) [][]byte { return slices.Repeat([][]byte{[]byte("part")}, n) }

// manifests are the faults of a manifest.
func manifests() []fault {
	junk := func(i image) image { return image{signs(seed(1), append(i.signed[:len(i.signed)-64], 0)), i.parts} }
	return []fault{
		gone("no manifest", -1),
		turns("no bytes", -1, func(b []byte) []byte { return nil }),
		turns("63 bytes", -1, func(b []byte) []byte { return b[:63] }),
		turns("64 bytes", -1, func(b []byte) []byte { return b[:64] }),
		turns("a byte less", -1, func(b []byte) []byte { return b[:len(b)-1] }),
		turns("a byte more", -1, func(b []byte) []byte { return append(b, 0) }),
		turns("a byte ahead", -1, func(b []byte) []byte { return append([]byte{0}, b...) }),
		turns("no signature", -1, func(b []byte) []byte { return b[:len(b)-64] }),
		lays("signed, but no manifest", image{signs(seed(1), []byte("not a manifest")), nil}),
		lays("signed, but nothing", image{signs(seed(1), nil), nil}),
		lays("signed, but too long", junk(of(4, two("x")...))),
		lays("a key that the ring has not", signedBy(key+1, seed(1), 4, two("x")...)),
		lays("a key that was revoked", signedBy(9, seed(101), 4, two("x")...)),
		lays("another key's seed", signedBy(key, seed(100), 4, two("x")...)),
		lays("a Security below the fuse", of(3, two("x")...)),
		lays("a Security far below the fuse", of(0, two("x")...)),
		lays("five segments", image{of(4, many(5)...).signed, many(4)}),
		lays("eight segments", image{of(4, many(8)...).signed, many(4)}),
		lays("five segments of no bytes", image{of(4, make([][]byte, 5)...).signed, make([][]byte, 4)}),
	}
}

// segments are the faults of segments.
func segments() []fault {
	out := []fault{lays("segments in another order", image{of(4, two("x")...).signed, [][]byte{two("x")[1], two("x")[0]}})}
	for i := range 2 {
		out = append(out,
			gone("no segment", i),
			turns("no bytes", i, func(b []byte) []byte { return nil }),
			turns("a byte less", i, func(b []byte) []byte { return b[:len(b)-1] }),
			turns("a byte less at the start", i, func(b []byte) []byte { return b[1:] }),
			turns("a byte more", i, func(b []byte) []byte { return append(b, 0) }),
			turns("the first byte turned", i, func(b []byte) []byte { b[0] ^= 1; return b }),
			turns("the last byte turned", i, func(b []byte) []byte { b[len(b)-1] ^= 0x80; return b }),
			turns("the other slot's segment", i, func(b []byte) []byte { return two("other")[i] }),
		)
	}
	return out
}

// faults are these all.
func faults() []fault { return append(manifests(), segments()...) }

// P24.2: a slot that can't be launched is passed over, whatever it is that does not hold; the other one is launched, whichever is first, or none.
func TestPassedOver(t *testing.T) {
	for _, f := range faults() {
		for slot := range 2 {
			other := launched(1-slot, 4+2*(1-slot), two([]string{"zero", "one"}[1-slot])...)
			first := good(state(slot, 2, 2))
			f.make(first, slot)
			r := with(t, first)
			boots(t, f.what+", first", r.s, ring(), 4, other)
			states(t, f.what+", first", r.s, state(slot, 1, 1))
			first[0] = known(state(slot, 1, 1))
			if !same(r.has(t), first) {
				t.Errorf("%s: the logical blocks are now %x; want %x", f.what, r.has(t), first)
			}
			r.put(t, 0, known(state(1-slot, 2, 2)))
			boots(t, f.what+", behind", r.s, ring(), 4, other)
			states(t, f.what+", behind", r.s, turned(state(1-slot, 2, 2), 1-slot))
			alone := state(slot, 0, 0)
			alone.Two[slot].Tries = 1
			r.put(t, 0, known(alone))
			boots(t, f.what+", alone", r.s, ring(), 4, failed(api.ErrSlot))
			states(t, f.what+", alone", r.s, state(slot, 0, 0))
		}
	}
}

// P24.2: two slots that can't be launched, each in a way of its own: ErrSlot, and noughts else.
func TestNoSlotLeft(t *testing.T) {
	r := rand.New(rand.NewSource(242))
	all := faults()
	for range 40 {
		zero, one := all[r.Intn(len(all))], all[r.Intn(len(all))]
		c := good(state(r.Intn(2), -1, 3))
		zero.make(c, 0)
		one.make(c, 1)
		rig := with(t, c)
		boots(t, zero.what+" and "+one.what, rig.s, ring(), 4, failed(api.ErrSlot))
		if x, _ := boot.State(rig.s); x.Two != state(0, -1, 2).Two {
			t.Errorf("State = %v", x)
		}
	}
}

// P24.2: each byte of a manifest and its signature turned.
func TestEachByte(t *testing.T) {
	c := good(state(0, -1, 0))
	r := with(t, c)
	was := c[place(0, -1)]
	for i := range was {
		b := slices.Clone(was)
		b[i] ^= 1 << (i % 8)
		r.put(t, place(0, -1), b)
		boots(t, "a byte turned", r.s, ring(), 0, failed(api.ErrSlot))
	}
	r.put(t, place(0, -1), was)
	boots(t, "as it was", r.s, ring(), 0, launched(0, 4, two("zero")...))
}

// P24.2: logical blocks of a slot that are there, but are not read.
func TestUnreadSlot(t *testing.T) {
	for segment := -1; segment <= 1; segment++ {
		r := with(t, good(state(0, 5, -1)))
		block := r.stands(t)[place(0, segment)]
		r.c.Flip(block, 1, []int{1, 5})
		if _, _, err := r.s.Read(place(0, segment)); err != api.ErrFlips {
			t.Fatalf("Read = %d; want ErrFlips", err)
		}
		boots(t, "too many flips", r.s, ring(), 0, launched(1, 6, two("one")...))
		r.c.Flip(block, 1, nil)
		boots(t, "no flips any more", r.s, ring(), 0, launched(0, 4, two("zero")...))
		is(t, "Mark", r.c.Mark(block), api.OK)
		boots(t, "a marked block", r.s, ring(), 0, launched(1, 6, two("one")...))
		states(t, "three tries", r.s, state(0, 2, -1))
	}
}

// P24.2: a ring that may not be, or has no key: no slot is launched, and the tries are taken.
func TestRings(t *testing.T) {
	r := with(t, good(state(1, 7, 7)))
	nine := make([]api.Key, 9)
	for i := range nine {
		nine[i] = api.Key{Number: i, Bytes: public(seed(1))}
	}
	left := 7
	for _, keys := range [][]api.Key{nil, {}, nine, slices.Concat(ring(), ring()), {{Number: -1}, ring()[1]}, {ring()[0], ring()[2]}} {
		boots(t, "no such ring", r.s, keys, 0, failed(api.ErrSlot))
		left--
		states(t, "no such ring", r.s, state(1, left, left))
	}
	boots(t, "eight keys", r.s, nine[:8], 0, launched(1, 6, two("one")...))
}

// P24.2: a fuse below, at and above the Securities, which are 4 and 6.
func TestFuses(t *testing.T) {
	r := with(t, good(state(0, -1, -1)))
	for _, fuse := range []int{math.MinInt, -1, 0, 1, 3, 4} {
		boots(t, "not above", r.s, ring(), fuse, launched(0, 4, two("zero")...))
	}
	for _, fuse := range []int{5, 6} {
		boots(t, "above the first", r.s, ring(), fuse, launched(1, 6, two("one")...))
	}
	for _, fuse := range []int{7, 8, 64, 65, 1 << 32, math.MaxInt} {
		boots(t, "above both", r.s, ring(), fuse, failed(api.ErrSlot))
	}
}

// P24.2: where the logical block 0 can't be changed, that error is the launch's: also if the other slot needs no change.
func TestBootFull(t *testing.T) {
	for _, s := range []api.Slots{state(0, 1, -1), state(0, 7, 7), state(1, -1, 1), state(1, 7, 7)} {
		r := with(t, good(s))
		r.full(t)
		boots(t, "full", r.s, ring(), 0, failed(api.ErrFull))
		states(t, "full", r.s, s)
	}
	c := good(state(0, -1, 3))
	r := with(t, c)
	r.full(t)
	boots(t, "a good one first", r.s, ring(), 0, launched(0, 4, two("zero")...))
	c[place(0, 0)] = []byte("other bytes")
	r = with(t, c)
	r.full(t)
	boots(t, "the second one's change", r.s, ring(), 0, failed(api.ErrFull))
	states(t, "the second one's change", r.s, state(0, -1, 3))
}

// P24.2, T1: blocks that fail in the change are given up, and another one is taken.
func TestBootWeak(t *testing.T) {
	r := with(t, good(state(0, 2, 2)))
	stands := r.stands(t)
	left := slices.DeleteFunc([]int{0, 1, 2, 3, 4, 5, 6, 7, 8, 9, 10, 11, 12, 13, 14, 15}, func(block int) bool { return slices.Contains(stands, block) })
	for _, block := range left[:len(left)-1] {
		r.c.Weak(block)
	}
	boots(t, "weak blocks", r.s, ring(), 0, launched(0, 4, two("zero")...))
	states(t, "weak blocks", r.s, state(0, 1, 2))
}

// P24.2, T2: the power goes in a deed of the first change, or of the second one: ErrDown, and behind it the logical blocks are as they were, but what is known of the slots, which has that try, or one less.
func TestBootCut(t *testing.T) {
	for deed := 1; deed <= 2*change; deed++ {
		for _, keep := range []int{0, 1, 4, 20, 1000} {
			c := good(state(1, 2, 3))
			c[place(1, 1)] = append(c[place(1, 1)], '!')
			r := with(t, c)
			r.c.Arm(deed, keep)
			boots(t, "cut", r.s, ring(), 0, failed(api.ErrDown))
			boots(t, "still down", r.s, ring(), 0, failed(api.ErrDown))
			r = r.again(t)
			x, err := boot.State(r.s)
			old, next := state(1, 2, 3), state(1, 2, 2)
			if deed > change {
				old, next = next, state(1, 1, 2)
			}
			if err != api.OK || x != old && x != next {
				t.Errorf("cut in deed %d behind %d: State = %v, %d; want %v or %v", deed, keep, x, err, old, next)
			}
			c[0] = known(x)
			if !same(r.has(t), c) {
				t.Errorf("cut in deed %d behind %d: the logical blocks are %x; want %x", deed, keep, r.has(t), c)
			}
			boots(t, "opened anew", r.s, ring(), 0, launched(0, 4, two("zero")...))
		}
	}
}

// P24.2: a try that was taken in a turn is not given back in the next one, nor by the power that goes: a slot that is not confirmed is launched at most as often as it had tries.
func TestTries(t *testing.T) {
	r := with(t, pair(state(1, -1, 7), of(4, two("zero")...), of(6, two("one")...)))
	launches := 0
	for n := range 40 {
		if n%3 == 1 {
			r.c.Arm(1+n%change, n)
		}
		l := boot.Boot(r.s, ring(), 0)
		if l.Err == api.ErrDown {
			r = r.again(t)
			continue
		}
		if l.Slot == 1 {
			launches++
		}
		r.c.Arm(0, 0)
	}
	if launches < 1 || launches > 7 {
		t.Errorf("%d launches of a slot with 7 tries", launches)
	}
	boots(t, "none is left", r.s, ring(), 0, launched(0, 4, two("zero")...))
}

// P24.2, T1: with a bit of each sector read wrongly, all is as without.
func TestFlips(t *testing.T) {
	r := with(t, good(state(0, 3, 3)))
	for block := range shape().Blocks {
		for page := range shape().Pages {
			r.c.Flip(block, page, []int{(37*block + 101*page) % 1024})
		}
	}
	states(t, "flips", r.s, state(0, 3, 3))
	boots(t, "flips", r.s, ring(), 0, launched(0, 4, two("zero")...))
	boots(t, "flips", r.s, ring(), 5, launched(1, 6, two("one")...))
	states(t, "flips", r.s, state(0, 1, 2))
}

// confirms holds Confirm to an answer.
func confirms(t *testing.T, what string, s *store.Store, c *chip.Chip, l api.Launch, want api.Errno) {
	t.Helper()
	if err := boot.Confirm(s, c, l); err != want {
		t.Errorf("%s: Confirm(.., %v) = %d; want %d", what, l, err, want)
	}
}

// fuses holds a chip's fuse to a number.
func fuses(t *testing.T, what string, c *chip.Chip, want int) {
	t.Helper()
	if n := c.Fuse(); n != want {
		t.Errorf("%s: the fuse is %d, want %d", what, n, want)
	}
}

// confirmed is what is known behind a Confirm of a slot.
func confirmed(s api.Slots, slot int) api.Slots {
	s.First = slot
	s.Two[slot] = api.Slot{Good: true}
	return s
}

// P24.3: ErrNil, which is ahead of all else; nothing is changed.
func TestConfirmNil(t *testing.T) {
	r := with(t, good(state(0, 3, 3)))
	for _, l := range []api.Launch{{}, {Slot: 1, Security: 9}, {Slot: -1}, {Security: 65}, {Err: api.ErrSlot}} {
		r.still(t, "nil", func() {
			confirms(t, "no store", nil, r.c, l, api.ErrNil)
			confirms(t, "no chip", r.s, nil, l, api.ErrNil)
			confirms(t, "neither", nil, nil, l, api.ErrNil)
			confirms(t, "no chip, and few logical blocks", bare(t, 10).s, nil, l, api.ErrNil)
		})
	}
	fuses(t, "nil", r.c, 0)
}

// P24.3: ErrArg of a launch that may not be, which is ahead of State's errors; nothing is changed.
func TestConfirmMayNotBe(t *testing.T) {
	r := with(t, good(state(0, 3, 3)))
	down := with(t, good(state(0, 3, 3)))
	down.c.Off()
	down.s.Read(0)
	check := func(l api.Launch) {
		t.Helper()
		r.still(t, "may not be", func() { confirms(t, "may not be", r.s, r.c, l, api.ErrArg) })
		confirms(t, "may not be, and down", down.s, r.c, l, api.ErrArg)
		confirms(t, "may not be, and few logical blocks", bare(t, 10).s, r.c, l, api.ErrArg)
	}
	for _, n := range append(outside(), -1) {
		for _, other := range []int{0, 1, 2, 64, 65, -1} {
			if n != 0 && n != 1 {
				check(api.Launch{Slot: n, Security: other})
			}
			check(api.Launch{Slot: other, Security: n})
		}
	}
	check(api.Launch{Slot: 2})
	check(api.Launch{Security: 65})
	for _, err := range []api.Errno{api.ErrArg, api.ErrNil, api.ErrNone, api.ErrDown, api.ErrSlot, 1000, -1} {
		check(api.Launch{Err: err})
		check(api.Launch{Slot: 1, Security: 5, Entry: 7, Loads: []api.Load{{}}, Err: err})
		check(boot.Boot(nil, nil, 0))
	}
	states(t, "may not be", r.s, state(0, 3, 3))
	fuses(t, "may not be", r.c, 0)
}

// P24.3: State's errors; the fuse stays.
func TestConfirmState(t *testing.T) {
	for n := 1; n < lebs; n++ {
		r := bare(t, n)
		r.put(t, 0, known(state(0, 1, 1)))
		r.still(t, "too few", func() { confirms(t, "too few", r.s, r.c, launched(0, 5), api.ErrArg) })
		fuses(t, "too few", r.c, 0)
	}
	r := with(t, good(state(0, 3, 3)))
	other := bare(t, 1)
	r.c.Off()
	confirms(t, "no power", r.s, other.c, launched(0, 5), api.ErrDown)
	confirms(t, "no power", r.s, r.c, launched(0, 5), api.ErrDown)
	r.c.On()
	confirms(t, "power again", r.s, r.c, launched(0, 5), api.ErrDown)
	fuses(t, "no power", other.c, 0)
	fuses(t, "no power", r.c, 0)
	r = r.again(t)
	states(t, "opened anew", r.s, state(0, 3, 3))
	confirms(t, "opened anew", r.s, r.c, launched(0, 5), api.OK)
	fuses(t, "opened anew", r.c, 5)
}

// P24.3: what is known behind a Confirm, whatever was known ahead of it; all else stays. A slot may be confirmed that could not be launched.
func TestConfirm(t *testing.T) {
	for slot := range 2 {
		c := good(api.Slots{})
		delete(c, place(slot, 0))
		r := with(t, c)
		for _, s := range every() {
			r.put(t, 0, known(s))
			confirms(t, "confirmed", r.s, r.c, api.Launch{Slot: slot, Entry: math.MinInt, Loads: []api.Load{{At: -1}}}, api.OK)
			states(t, "confirmed", r.s, confirmed(s, slot))
		}
		c[0] = r.has(t)[0]
		if !same(r.has(t), c) {
			t.Errorf("the logical blocks are %x; want %x", r.has(t), c)
		}
		fuses(t, "Security 0", r.c, 0)
		for _, b := range [][]byte{nil, []byte("no slots"), known(state(0, 1, 1))[:8]} {
			r.put(t, 0, b)
			confirms(t, "nothing known", r.s, r.c, launched(slot, 0), api.OK)
			states(t, "nothing known", r.s, confirmed(api.Slots{}, slot))
		}
		r = bare(t, lebs)
		confirms(t, "an empty store", r.s, r.c, launched(slot, 0), api.OK)
		if got := r.has(t); !same(got, contents{0: known(confirmed(api.Slots{}, slot))}) {
			t.Errorf("an empty store has %x", got)
		}
	}
}

// P24.3: the fuse rises alone, to the launch's Security; at and below it there is no deed but those of the change.
func TestConfirmFuse(t *testing.T) {
	r := with(t, good(state(0, 3, 3)))
	fuse := 0
	for _, n := range []int{0, 1, 1, 0, 5, 4, 5, 6, 0, 63, 62, 63, 64, 64, 63, 0} {
		if n <= fuse {
			r.c.Arm(change+1, 1)
		}
		confirms(t, "confirmed", r.s, r.c, launched(n%2, n), api.OK)
		if !r.c.Up() {
			t.Fatalf("Confirm of %d did more than the change", n)
		}
		r.c.Arm(0, 0)
		fuse = max(fuse, n)
		fuses(t, "confirmed", r.c, fuse)
		if x, err := boot.State(r.s); err != api.OK || x.First != n%2 || x.Two[n%2] != (api.Slot{Good: true}) {
			t.Errorf("State = %v, %d", x, err)
		}
	}
}

// P24.3: the logical block 0 is changed also if its bytes are the same already.
func TestConfirmAgain(t *testing.T) {
	r := with(t, good(state(1, 0, -1)))
	was := r.stands(t)[0]
	confirms(t, "again", r.s, r.c, launched(1, 0), api.OK)
	if r.stands(t)[0] == was {
		t.Errorf("the logical block 0 was not changed")
	}
	states(t, "again", r.s, state(1, 0, -1))
}

// P24.3: an error of the change is the answer, and the fuse stays.
func TestConfirmFull(t *testing.T) {
	r := with(t, good(state(0, -1, 3)))
	r.full(t)
	confirms(t, "full", r.s, r.c, launched(1, 6), api.ErrFull)
	states(t, "full", r.s, state(0, -1, 3))
	fuses(t, "full", r.c, 0)
}

// P24.3, T2: the power goes in a deed of the change: ErrDown, and what is known is as it was, or confirmed, with the fuse as it was; or in the burning: ErrDown, confirmed, with the fuse as it was, or burnt.
func TestConfirmCut(t *testing.T) {
	for deed := 1; deed <= change+1; deed++ {
		for _, keep := range []int{-1, 0, 1, 4, 20, 1000} {
			c := good(state(0, -1, 3))
			r := with(t, c)
			is(t, "Burn", r.c.Burn(2), api.OK)
			r.c.Arm(deed, keep)
			confirms(t, "cut", r.s, r.c, launched(1, 6), api.ErrDown)
			r = r.again(t)
			x, err := boot.State(r.s)
			if err != api.OK || x != state(1, -1, -1) && (deed > change || x != state(0, -1, 3)) {
				t.Errorf("cut in deed %d behind %d: State = %v, %d", deed, keep, x, err)
			}
			if deed > change && keep > 0 {
				fuses(t, "cut in the burning", r.c, 6)
			} else {
				fuses(t, "cut", r.c, 2)
			}
			c[0] = known(x)
			if !same(r.has(t), c) {
				t.Errorf("cut in deed %d behind %d: the logical blocks are %x; want %x", deed, keep, r.has(t), c)
			}
			if l := boot.Boot(r.s, ring(), r.c.Fuse()); l.Err != api.OK {
				t.Errorf("cut in deed %d behind %d: Boot = %v", deed, keep, l)
			}
		}
	}
}

// P24.3: the fuse is that of the chip that was handed in; without power it answers ErrDown, if it is to be burnt.
func TestConfirmOtherChip(t *testing.T) {
	r, other := with(t, good(state(0, 3, 3))), bare(t, 1)
	confirms(t, "another chip", r.s, other.c, launched(1, 6), api.OK)
	fuses(t, "the store's chip", r.c, 0)
	fuses(t, "another chip", other.c, 6)
	other.c.Off()
	confirms(t, "another chip without power", r.s, other.c, launched(0, 7), api.ErrDown)
	states(t, "another chip without power", r.s, state(0, -1, -1))
	confirms(t, "nothing to burn", r.s, other.c, launched(1, 0), api.OK)
	other.c.On()
	fuses(t, "another chip", other.c, 6)
}

// P24.2, P24.3, and DOC.md's examples 8 to 10: seven launches of a slot that is not confirmed, then none; a slot that is confirmed is launched ahead of one of a lower Security; nothing of a key that was revoked.
func TestWhole(t *testing.T) {
	r := with(t, good(state(1, 0, 7)))
	for range 7 {
		boots(t, "not confirmed", r.s, ring(), r.c.Fuse(), launched(1, 6, two("one")...))
	}
	boots(t, "no try is left", r.s, ring(), r.c.Fuse(), failed(api.ErrSlot))
	r.put(t, 0, known(state(1, 0, 7)))
	confirms(t, "confirmed", r.s, r.c, boot.Boot(r.s, ring(), r.c.Fuse()), api.OK)
	fuses(t, "confirmed", r.c, 6)
	for range 9 {
		boots(t, "confirmed", r.s, ring(), r.c.Fuse(), launched(1, 6, two("one")...))
	}
	r.put(t, 0, known(state(0, 7, -1)))
	boots(t, "a lower Security", r.s, ring(), r.c.Fuse(), launched(1, 6, two("one")...))
	states(t, "a lower Security", r.s, state(0, 6, -1))
	keys := ring()
	keys[1].Revoked = true
	boots(t, "revoked", r.s, keys, r.c.Fuse(), failed(api.ErrSlot))
}

// R2: a launch is new memory, and the ring is neither written into nor kept.
func TestOutIsNew(t *testing.T) {
	r := with(t, good(state(0, -1, -1)))
	keys := append(ring(), api.Key{Number: 50, Bytes: seed(9)})
	was := slices.Clone(keys)
	l := boot.Boot(r.s, keys[:3], 0)
	if !slices.Equal(keys, was) {
		t.Errorf("the ring is now %v", keys)
	}
	clear(keys)
	if want := launched(0, 4, two("zero")...); !alike(l, want) {
		t.Errorf("the launch is now %v; want %v", l, want)
	}
	for i := range l.Loads[0].Data[:cap(l.Loads[0].Data)] {
		l.Loads[0].Data[:cap(l.Loads[0].Data)][i] = 0xee
	}
	if !bytes.Equal(l.Loads[1].Data, two("zero")[1]) {
		t.Errorf("the second load is now %q", l.Loads[1].Data)
	}
	boots(t, "again", r.s, ring(), 0, launched(0, 4, two("zero")...))
	given := launched(1, 6, two("one")...)
	confirms(t, "confirmed", r.s, r.c, given, api.OK)
	if !alike(given, launched(1, 6, two("one")...)) {
		t.Errorf("the launch that was handed in is now %v", given)
	}
}
