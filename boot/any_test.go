package boot_test

import (
	"bytes"
	"crypto/ed25519"
	"crypto/sha256"
	"encoding/binary"
	"math/rand"
	"slices"
	"testing"

	"casemate/api"
	"casemate/boot"
)

// top is the greatest number of a manifest.
const top = 1<<31 - 1

// seeds are those of the keys that these tests know, by their numbers.
func seeds() map[int][32]byte {
	return map[int][32]byte{3: seed(100), key: seed(1), 9: seed(101), 12: seed(50)}
}

// parsed is what a manifest's bytes say, told apart from layer 20.
func parsed(b []byte) (api.Manifest, bool) {
	if len(b) < 24 || string(b[:4]) != "mani" {
		return api.Manifest{}, false
	}
	at := func(i int) int { return int(binary.LittleEndian.Uint32(b[i:])) }
	m := api.Manifest{Version: at(4), Security: at(8), Key: at(12), Entry: at(16)}
	if at(20) > 8 || len(b) != 24+40*at(20) || max(m.Version, m.Security, m.Key, m.Entry) > top {
		return api.Manifest{}, false
	}
	end := 0
	for i := 24; i < len(b); i += 40 {
		s := api.Segment{Load: at(i), Bytes: at(i + 4), Digest: [32]byte(b[i+8 : i+40])}
		if s.Bytes > api.MaxData || s.Load < end || s.Load+s.Bytes > top {
			return api.Manifest{}, false
		}
		end = s.Load + s.Bytes
		m.Segments = append(m.Segments, s)
	}
	return m, true
}

// isRing says whether a ring may be.
func isRing(keys []api.Key) bool {
	last := -1
	for _, k := range keys {
		if k.Number <= last || k.Number > top {
			return false
		}
		last = k.Number
	}
	return len(keys) <= 8
}

// trusted says whether a key of a ring, that is not revoked, has the number, and the signature holds for it, by the library's signatures.
func trusted(keys []api.Key, number int, over, sign []byte) bool {
	return isRing(keys) && slices.ContainsFunc(keys, func(k api.Key) bool {
		return k.Number == number && !k.Revoked && ed25519.Verify(k.Bytes[:], over, sign)
	})
}

// loaded is what a slot is launched as, if it may be, told apart from the layers below.
func loaded(c contents, slot int, keys []api.Key, fuse int) (api.Launch, bool) {
	signed := c[place(slot, -1)]
	if len(signed) < 64 {
		return api.Launch{}, false
	}
	at := len(signed) - 64
	m, ok := parsed(signed[:at])
	if !ok || !trusted(keys, m.Key, signed[:at], signed[at:]) || m.Security < fuse || len(m.Segments) > 4 {
		return api.Launch{}, false
	}
	l := api.Launch{Slot: slot, Entry: m.Entry, Security: m.Security}
	for i, s := range m.Segments {
		b, ok := c[place(slot, i)]
		if !ok || len(b) != s.Bytes || sha256.Sum256(b) != s.Digest {
			return api.Launch{}, false
		}
		l.Loads = append(l.Loads, api.Load{At: s.Load, Data: b})
	}
	return l, true
}

// booted is what Boot comes to, and what is known of the slots behind it.
func booted(c contents, s api.Slots, keys []api.Key, fuse int) (api.Launch, api.Slots) {
	for _, slot := range inOrder(s) {
		s = turned(s, slot)
		if l, ok := loaded(c, slot, keys, fuse); ok {
			return l, s
		}
	}
	return failed(api.ErrSlot), s
}

// anySlots is what may be known.
func anySlots(r *rand.Rand) api.Slots {
	return state(r.Intn(2), r.Intn(5)-1, r.Intn(5)-1)
}

// anyImage is one that some key signed.
func anyImage(r *rand.Rand) image {
	numbers := []int{3, key, key, key, 9, 12}
	n := numbers[r.Intn(len(numbers))]
	var parts [][]byte
	for range r.Intn(7) {
		b := make([]byte, r.Intn(2)*r.Intn(300))
		r.Read(b)
		parts = append(parts, b)
	}
	return signedBy(n, seeds()[n], r.Intn(8), parts...)
}

// anyRing is one of some keys, some of them revoked; now and then it may not be.
func anyRing(r *rand.Rand) []api.Key {
	var out []api.Key
	for _, n := range []int{3, key, 9, 12} {
		if r.Intn(6) > 0 {
			out = append(out, api.Key{Number: n, Bytes: public(seeds()[n]), Revoked: r.Intn(5) == 0})
		}
	}
	if r.Intn(20) == 0 {
		out = append(out, api.Key{Number: r.Intn(13) - 1})
	}
	return out
}

// disturb does something to a logical block, or nothing.
func disturb(r *rand.Rand, c contents, leb int) {
	b, ok := c[leb]
	switch n := r.Intn(40); {
	case n == 0:
		delete(c, leb)
	case n == 1:
		c[leb] = c[r.Intn(lebs)]
	case n == 2:
		c[leb] = make([]byte, r.Intn(200))
		r.Read(c[leb])
	case n == 3 && ok:
		c[leb] = append(slices.Clone(b), byte(r.Int()))
	case n == 4 && len(b) > 0:
		c[leb] = b[:len(b)-1]
	case n == 5 && len(b) > 0:
		c[leb] = slices.Clone(b)
		c[leb][r.Intn(len(b))] ^= 1 << r.Intn(8)
	}
}

// anything are contents of images, some of which something was done to.
func anything(r *rand.Rand) contents {
	c := contents{}
	for slot := range 2 {
		i := anyImage(r)
		i.parts = i.parts[:min(len(i.parts), 4)]
		c.lay(slot, i)
	}
	for leb := 1; leb < lebs; leb++ {
		disturb(r, c, leb)
	}
	return c
}

// checked fails if what is launched was not checked: its manifest by a key of the ring that is not revoked, its Security against the fuse, its segments by their digests.
func checked(t *testing.T, c contents, keys []api.Key, fuse int, l api.Launch) {
	t.Helper()
	if l.Err != api.OK {
		if !alike(l, failed(l.Err)) {
			t.Errorf("a launch with an error has more: %v", l)
		}
		return
	}
	signed := c[place(l.Slot, -1)]
	at := max(len(signed)-64, 0)
	m, ok := parsed(signed[:at])
	if !ok || !trusted(keys, m.Key, signed[:at], signed[at:]) || l.Security < fuse || l.Security != m.Security || l.Entry != m.Entry || len(l.Loads) != len(m.Segments) {
		t.Fatalf("not checked: %v of %x with %v and the fuse %d", l, signed, keys, fuse)
	}
	for i, s := range m.Segments {
		if d := l.Loads[i]; d.At != s.Load || len(d.Data) != s.Bytes || sha256.Sum256(d.Data) != s.Digest {
			t.Errorf("not checked: load %d of %v", i, l)
		}
	}
}

// P24.4, P24.2, T4: whatever the logical blocks have, the ring and the fuse are.
func TestAnyContents(t *testing.T) {
	r := rand.New(rand.NewSource(244))
	launches := 0
	for range 150 {
		c, s, keys, fuse := anything(r), anySlots(r), anyRing(r), r.Intn(6)
		c[0] = known(s)
		rig := with(t, c)
		want, behind := booted(c, s, keys, fuse)
		l := boot.Boot(rig.s, keys, fuse)
		if !alike(l, want) {
			t.Errorf("Boot of %x with %v and the fuse %d = %v; want %v", c, keys, fuse, l, want)
		}
		checked(t, c, keys, fuse, l)
		c[0] = known(behind)
		if got := rig.has(t); !same(got, c) {
			t.Errorf("the logical blocks are %x; want %x", got, c)
		}
		if l.Err == api.OK {
			launches++
		}
	}
	if launches < 40 || launches > 110 {
		t.Errorf("%d launches of 150: the contents are too good, or too bad", launches)
	}
}

// P24.4: pages that were laid on the chip by nobody's call: bytes, and whole pages of other blocks.
func TestAnyPages(t *testing.T) {
	r := rand.New(rand.NewSource(245))
	for range 40 {
		rig := with(t, good(anySlots(r)))
		for range r.Intn(20) {
			raw, err := rig.c.Read(r.Intn(16), r.Intn(5))
			is(t, "chip.Read", err, api.OK)
			if r.Intn(2) == 0 {
				raw[r.Intn(len(raw))] ^= byte(1 + r.Intn(255))
			}
			is(t, "chip.Force", rig.c.Force(r.Intn(16), r.Intn(5), raw), api.OK)
		}
		rig = rig.again(t)
		c := rig.has(t)
		s, err := boot.State(rig.s)
		is(t, "State", err, api.OK)
		want, behind := booted(c, s, ring(), 0)
		l := boot.Boot(rig.s, ring(), 0)
		if l.Err == api.ErrFull {
			continue
		}
		if !alike(l, want) {
			t.Errorf("Boot of %x = %v; want %v", c, l, want)
		}
		checked(t, c, ring(), 0, l)
		states(t, "behind Boot", rig.s, behind)
	}
}

// walk is a device on whose flash anything is written, and what is known of it.
type walk struct {
	r     *rand.Rand
	rig   rig
	last  api.Launch
	floor int // the greatest Security of a launch that was confirmed without an error
	cuts  int // of the power
}

// step does one thing to it, and says whether that was a Confirm.
func (w *walk) step(t *testing.T) bool {
	t.Helper()
	switch w.r.Intn(8) {
	case 0, 1:
		i, slot := of(w.r.Intn(12), two("any")...), w.r.Intn(2)
		w.rig.s.Change(place(slot, 0), i.parts[0])
		w.rig.s.Change(place(slot, 1), i.parts[1])
		w.rig.s.Change(place(slot, -1), i.signed)
	case 2:
		w.rig.s.Change(0, known(anySlots(w.r)))
	case 3:
		w.rig.c.Arm(1+w.r.Intn(8), w.r.Intn(100))
	case 4, 5, 6:
		w.last = boot.Boot(w.rig.s, ring(), w.rig.c.Fuse())
		if w.last.Err == api.OK && w.last.Security < w.floor {
			t.Fatalf("a launch of %d; %d was confirmed", w.last.Security, w.floor)
		}
	default:
		if boot.Confirm(w.rig.s, w.rig.c, w.last) == api.OK {
			w.floor = max(w.floor, w.last.Security)
		}
		return true
	}
	return false
}

// mend gives power again, where there is none.
func (w *walk) mend(t *testing.T) {
	t.Helper()
	if !w.rig.c.Up() {
		w.rig = w.rig.again(t)
		w.cuts++
	}
}

// P24.5, T3: the fuse rises by a Confirm alone, to the launch's Security, is never below that of one that was confirmed, and nothing below is launched, whatever is written and wherever the power goes.
func TestRollback(t *testing.T) {
	r := rand.New(rand.NewSource(246))
	confirmed, cuts := 0, 0
	for range 6 {
		w := walk{r: r, rig: with(t, contents{}), last: failed(api.ErrSlot)}
		fuse := 0
		for range 120 {
			isConfirm := w.step(t)
			w.mend(t)
			n := w.rig.c.Fuse()
			if n < fuse || n > fuse && (!isConfirm || n != w.last.Security) || n < w.floor {
				t.Fatalf("the fuse was %d and is %d, behind a launch of %d; %d was confirmed", fuse, n, w.last.Security, w.floor)
			}
			fuse = n
		}
		if w.floor > 0 {
			confirmed++
		}
		cuts += w.cuts
	}
	if confirmed < 3 || cuts < 15 {
		t.Errorf("%d walks of 6 came to a Confirm that burnt the fuse, and %d cuts", confirmed, cuts)
	}
}

// P24.5: each Security against each one that was confirmed.
func TestFuseOfEach(t *testing.T) {
	for confirmed := range 4 {
		rig := with(t, contents{})
		confirms(t, "confirmed", rig.s, rig.c, launched(0, confirmed), api.OK)
		for security := range 4 {
			contents := contents{}
			contents.lay(1, of(security, []byte{byte(security)}))
			contents[0] = known(state(1, 0, -1))
			for leb, b := range contents {
				rig.put(t, leb, b)
			}
			want := launched(1, security, []byte{byte(security)})
			if security < confirmed {
				want = failed(api.ErrSlot)
			}
			boots(t, "each", rig.s, ring(), rig.c.Fuse(), want)
		}
	}
}

// P24.2, R2: one call hangs on the store, the ring and the fuse alone.
func TestCallsAlone(t *testing.T) {
	c := good(state(0, -1, -1))
	one, other := with(t, c), with(t, c)
	for range 3 {
		boots(t, "revoked, or none", one.s, nil, 0, failed(api.ErrSlot))
		boots(t, "a great fuse", one.s, ring(), 50, failed(api.ErrSlot))
		boots(t, "again", one.s, ring(), 0, launched(0, 4, two("zero")...))
		confirms(t, "the other one", other.s, other.c, launched(1, 6), api.OK)
		boots(t, "the other one", other.s, ring(), 0, launched(1, 6, two("one")...))
		states(t, "again", one.s, state(0, -1, -1))
	}
	if got := one.has(t); !same(got, c) || bytes.Equal(other.has(t)[0], c[0]) {
		t.Errorf("the logical blocks are %x", got)
	}
}
