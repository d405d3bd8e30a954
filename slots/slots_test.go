package slots_test

import (
	"bytes"
	"math"
	"math/rand"
	"slices"
	"testing"

	"casemate/api"
	"casemate/slots"
)

// tries is as many as a slot may have.
const tries = 7

// none is what stands beside an error.
var none api.Slots

// of is what is known: which slot is first, the tries of slot 0 and whether it is good, those of slot 1.
func of(first, zero int, zeroGood bool, one int, oneGood bool) api.Slots {
	return api.Slots{First: first, Two: [2]api.Slot{{Tries: zero, Good: zeroGood}, {Tries: one, Good: oneGood}}}
}

// all are those that may be, each of them.
func all() []api.Slots {
	var out []api.Slots
	for first := range 2 {
		for zero := range tries + 1 {
			for one := range tries + 1 {
				for good := range 4 {
					out = append(out, of(first, zero, good&1 == 1, one, good&2 == 2))
				}
			}
		}
	}
	return out
}

// outside are numbers of no slot; those that wrap round to one among them.
func outside() []int {
	return []int{-1, -2, -3, 2, 3, 4, 7, 8, 127, 128, 255, 256, 257, -255, -256, 1 << 16, 1<<16 + 1, 1<<31 - 1, 1 << 31, 1 << 32, 1<<32 + 1, -1 << 31, -1 << 32, 1<<62 + 1, math.MaxInt, math.MaxInt - 1, math.MinInt, math.MinInt + 1}
}

// beyond are numbers of tries that no slot has; those that wrap round to one among them.
func beyond() []int {
	return []int{-1, -2, -7, -8, 8, 9, 15, 16, 127, 128, 255, 256, 257, 263, -249, -256, 1 << 16, 1<<16 + 7, 1<<31 - 1, 1 << 31, 1 << 32, 1<<32 + 3, -1 << 31, 1<<40 + 7, math.MaxInt, math.MaxInt - 1, math.MinInt, math.MinInt + 1, math.MinInt + 7}
}

// bad are those that may not be.
func bad() []api.Slots {
	var out []api.Slots
	for good := range 4 {
		zeroGood, oneGood := good&1 == 1, good&2 == 2
		for _, first := range outside() {
			out = append(out, of(first, 0, zeroGood, 0, oneGood), of(first, tries, zeroGood, tries, oneGood), of(first, 3, zeroGood, 0, oneGood), of(first, -1, zeroGood, 8, oneGood))
		}
		for first := range 2 {
			for _, n := range beyond() {
				out = append(out, of(first, n, zeroGood, 0, oneGood), of(first, n, zeroGood, tries, oneGood), of(first, 0, zeroGood, n, oneGood), of(first, tries, zeroGood, n, oneGood), of(first, n, zeroGood, n, oneGood))
			}
		}
	}
	return out
}

// last is the last byte of a slot.
func last(good bool) byte {
	if good {
		return 1
	}
	return 0
}

// sheet is their bytes, as the chapter says them.
func sheet(s api.Slots) []byte {
	return []byte{'s', 'l', 'o', 't', byte(s.First), byte(s.Two[0].Tries), last(s.Two[0].Good), byte(s.Two[1].Tries), last(s.Two[1].Good)}
}

// like says whether bytes are those of such that may be.
func like(b []byte) bool {
	return len(b) == 9 && string(b[:4]) == "slot" && b[4] < 2 && b[5] <= tries && b[6] < 2 && b[7] <= tries && b[8] < 2
}

// may says whether a slot may be tried.
func may(s api.Slots, slot int) bool { return s.Two[slot].Good || s.Two[slot].Tries > 0 }

// put is what is known, with one slot of it another.
func put(s api.Slots, first, slot int, other api.Slot) api.Slots {
	if slot == 0 {
		return api.Slots{First: first, Two: [2]api.Slot{other, s.Two[1]}}
	}
	return api.Slots{First: first, Two: [2]api.Slot{s.Two[0], other}}
}

// call is one of those that a slot is named to.
type call func(api.Slots, int) (api.Slots, api.Errno)

// calls are these by their names.
func calls() map[string]call {
	return map[string]call{"Try": slots.Try, "Confirm": slots.Confirm, "Install": slots.Install}
}

// want is what such a call answers, as the chapter says it, of slots that may be and a slot that is 0 or 1.
func want(name string, s api.Slots, slot int) (api.Slots, api.Errno) {
	here := s.Two[slot]
	switch {
	case name == "Confirm":
		return put(s, slot, slot, api.Slot{Good: true}), api.OK
	case name == "Install" && slot == s.First:
		return none, api.ErrArg
	case name == "Install":
		return put(s, slot, slot, api.Slot{Tries: tries}), api.OK
	case here.Good:
		return s, api.OK
	case here.Tries == 0:
		return none, api.ErrSlot
	}
	return put(s, s.First, slot, api.Slot{Tries: here.Tries - 1}), api.OK
}

// does holds a call against the chapter, and answers what it made.
func does(t *testing.T, name string, s api.Slots, slot int) api.Slots {
	t.Helper()
	made, code := want(name, s, slot)
	out, err := calls()[name](s, slot)
	if out != made || err != code {
		t.Fatalf("%s(%v, %d) = %v, %d; want %v, %d", name, s, slot, out, err, made, code)
	}
	return out
}

// orders holds Order of slots that may be against the chapter.
func orders(t *testing.T, s api.Slots) {
	t.Helper()
	var list []int
	for _, slot := range [][]int{{0, 1}, {1, 0}}[s.First] {
		if may(s, slot) {
			list = append(list, slot)
		}
	}
	if out, err := slots.Order(s); err != api.OK || !slices.Equal(out, list) {
		t.Errorf("Order(%v) = %v, %d; want %v", s, out, err, list)
	}
}

// lays holds Bytes against the chapter's bytes.
func lays(t *testing.T, s api.Slots) {
	t.Helper()
	if b, err := slots.Bytes(s); err != api.OK || !bytes.Equal(b, sheet(s)) {
		t.Errorf("Bytes(%v) = %x, %d; want %x", s, b, err, sheet(s))
	}
}

// reads holds Parse against what bytes say.
func reads(t *testing.T, b []byte, s api.Slots) {
	t.Helper()
	if out, err := slots.Parse(b); err != api.OK || out != s {
		t.Errorf("Parse(%x) = %v, %d; want %v", b, out, err, s)
	}
}

// refuses holds Parse to ErrForm, with nothing else.
func refuses(t *testing.T, what string, b []byte) {
	t.Helper()
	if out, err := slots.Parse(b); err != api.ErrForm || out != none {
		t.Errorf("%s: Parse(%x) = %v, %d; want ErrForm", what, b, out, err)
	}
}

// P22.1 to P22.3: the chapter's examples.
func TestExamples(t *testing.T) {
	s := slots.Start()
	if out, err := slots.Order(s); err != api.OK || len(out) != 0 {
		t.Errorf("Order(Start()) = %v, %d; want none", out, err)
	}
	on, err := slots.Install(s, 1)
	if err != api.OK || on != of(1, 0, false, 7, false) {
		t.Errorf("Install(Start(), 1) = %v, %d; want First 1, 7 tries of slot 1", on, err)
	}
	if out, err := slots.Order(on); err != api.OK || !slices.Equal(out, []int{1}) {
		t.Errorf("Order of it = %v, %d; want 1", out, err)
	}
	if out, err := slots.Try(on, 1); err != api.OK || out != of(1, 0, false, 6, false) {
		t.Errorf("Try(of it, 1) = %v, %d; want 6 tries", out, err)
	}
	if out, err := slots.Install(s, 0); err != api.ErrArg || out != none {
		t.Errorf("Install(Start(), 0) = %v, %d; want ErrArg", out, err)
	}
	if b, err := slots.Bytes(s); err != api.OK || !bytes.Equal(b, []byte{'s', 'l', 'o', 't', 0, 0, 0, 0, 0}) {
		t.Errorf("Bytes(Start()) = %x, %d", b, err)
	}
}

// P22.1: Start, whatever was done ahead of it.
func TestStart(t *testing.T) {
	for range 3 {
		s := slots.Start()
		if s != of(0, 0, false, 0, false) || slots.Check(s) != api.OK {
			t.Errorf("Start() = %v, Check of it %d", s, slots.Check(s))
		}
		s.First, s.Two[0], s.Two[1] = 1, api.Slot{Tries: 3}, api.Slot{Good: true}
	}
}

// P22.1: where each thing stands, written out.
func TestPlaces(t *testing.T) {
	for _, x := range []struct {
		s api.Slots
		b string
	}{
		{of(0, 0, false, 0, false), "slot\x00\x00\x00\x00\x00"},
		{of(1, 0, false, 0, false), "slot\x01\x00\x00\x00\x00"},
		{of(0, 5, false, 0, false), "slot\x00\x05\x00\x00\x00"},
		{of(0, 0, true, 0, false), "slot\x00\x00\x01\x00\x00"},
		{of(0, 0, false, 5, false), "slot\x00\x00\x00\x05\x00"},
		{of(0, 0, false, 0, true), "slot\x00\x00\x00\x00\x01"},
		{of(1, 7, true, 6, true), "slot\x01\x07\x01\x06\x01"},
		{of(0, 2, true, 3, false), "slot\x00\x02\x01\x03\x00"},
	} {
		if b, err := slots.Bytes(x.s); err != api.OK || string(b) != x.b {
			t.Errorf("Bytes(%v) = %x, %d; want %x", x.s, b, err, x.b)
		}
		reads(t, []byte(x.b), x.s)
	}
}

// P22.1, P22.4: each that may be is laid down, and read as itself; no two as the same bytes.
func TestMayBe(t *testing.T) {
	seen := map[string]bool{}
	for _, s := range all() {
		if err := slots.Check(s); err != api.OK {
			t.Errorf("Check(%v) = %d", s, err)
		}
		lays(t, s)
		reads(t, sheet(s), s)
		seen[string(sheet(s))] = true
	}
	if len(seen) != 512 {
		t.Errorf("%d different bytes, want 512", len(seen))
	}
}

// P22.1 to P22.3: ErrArg of those that may not be, with nothing else, whatever slot is named.
func TestMayNotBe(t *testing.T) {
	for _, s := range bad() {
		if err := slots.Check(s); err != api.ErrArg {
			t.Errorf("Check(%v) = %d; want ErrArg", s, err)
		}
		if b, err := slots.Bytes(s); err != api.ErrArg || len(b) != 0 {
			t.Errorf("Bytes(%v) = %x, %d; want ErrArg", s, b, err)
		}
		if out, err := slots.Order(s); err != api.ErrArg || len(out) != 0 {
			t.Errorf("Order(%v) = %v, %d; want ErrArg", s, out, err)
		}
		for name, f := range calls() {
			for _, slot := range []int{0, 1, 2, -1, s.First, 1 - s.First} {
				if out, err := f(s, slot); err != api.ErrArg || out != none {
					t.Errorf("%s(%v, %d) = %v, %d; want ErrArg", name, s, slot, out, err)
				}
			}
		}
	}
}

// P22.2, P22.3: ErrArg of a slot that is neither 0 nor 1, whatever may be tried.
func TestNoSlot(t *testing.T) {
	for _, s := range all() {
		for name, f := range calls() {
			for _, slot := range outside() {
				if out, err := f(s, slot); err != api.ErrArg || out != none {
					t.Errorf("%s(%v, %d) = %v, %d; want ErrArg", name, s, slot, out, err)
				}
			}
		}
	}
}

// P22.1: ErrForm of each beginning of what is laid down, and of bytes more.
func TestBeginnings(t *testing.T) {
	for _, s := range all() {
		b := sheet(s)
		for n := range b {
			refuses(t, "a beginning", b[:n])
			refuses(t, "a beginning that is clipped", slices.Clone(b[:n]))
			refuses(t, "without a byte", slices.Delete(slices.Clone(b), n, n+1))
		}
		for _, more := range [][]byte{{0}, {1}, {0xff}, {0, 0}, []byte("slot"), make([]byte, 9), b} {
			refuses(t, "bytes more", slices.Concat(b, more))
		}
		refuses(t, "a byte ahead", slices.Concat([]byte{0}, b))
		refuses(t, "a letter ahead", slices.Concat([]byte{'s'}, b))
	}
	refuses(t, "nil", nil)
	refuses(t, "no bytes", []byte{})
	for n := range 300 {
		refuses(t, "bytes that were never written", make([]byte, n))
		refuses(t, "erased bytes", bytes.Repeat([]byte{0xff}, n))
	}
	refuses(t, "many bytes", append(sheet(slots.Start()), make([]byte, 1<<20)...))
}

// P22.1: ErrForm of other letters ahead.
func TestLetters(t *testing.T) {
	for _, s := range []api.Slots{slots.Start(), of(1, 7, true, 6, true)} {
		for _, text := range []string{"Slot", "SLOT", "tols", "ring", "mani", "case", "slo\x00", "slot"[1:] + "s", "\x00\x00\x00\x00", "\xff\xff\xff\xff"} {
			refuses(t, "other letters", append([]byte(text), sheet(s)[4:]...))
		}
	}
}

// P22.1: ErrForm of a First above 1, of Tries above 7, of a last byte that is neither 00 nor 01, each by itself.
func TestNumbers(t *testing.T) {
	for _, s := range all() {
		for place, least := range map[int]int{4: 2, 5: 8, 6: 2, 7: 8, 8: 2} {
			for n := least; n < 256; n++ {
				b := sheet(s)
				b[place] = byte(n)
				refuses(t, "a number too great", b)
			}
		}
	}
}

// P22.1: any two bytes that are others: what is read are just the bytes of such that may be.
func TestTwoBytes(t *testing.T) {
	b := sheet(of(1, 3, false, 5, true))
	for i := range b {
		for j := range i {
			was, wasToo := b[i], b[j]
			for n := range 1 << 16 {
				b[i], b[j] = byte(n), byte(n>>8)
				s, err := slots.Parse(b)
				if (err == api.OK) != like(b) || err == api.OK && !bytes.Equal(sheet(s), b) || err != api.OK && (err != api.ErrForm || s != none) {
					t.Fatalf("Parse(%x) = %v, %d", b, s, err)
				}
			}
			b[i], b[j] = was, wasToo
		}
	}
}

// P22.1, P22.4: any nine bytes: what is read is laid down as the same bytes.
func TestBytesBack(t *testing.T) {
	r := rand.New(rand.NewSource(221))
	read := 0
	for range 200000 {
		b := append([]byte("slot"), byte(r.Intn(3)), byte(r.Intn(10)), byte(r.Intn(3)), byte(r.Intn(10)), byte(r.Intn(3)))
		s, err := slots.Parse(b)
		if (err == api.OK) != like(b) || err != api.OK && s != none {
			t.Fatalf("Parse(%x) = %v, %d", b, s, err)
		}
		if err == api.OK {
			read++
			lays(t, s)
			if again, err := slots.Bytes(s); err != api.OK || !bytes.Equal(again, b) {
				t.Fatalf("Bytes(Parse(%x)) = %x, %d", b, again, err)
			}
		}
	}
	if read == 0 {
		t.Error("none was read")
	}
}

// P22.2: Order of no slot, one and two that may be tried, with First 0 and 1.
func TestOrder(t *testing.T) {
	for _, x := range []struct {
		s    api.Slots
		list []int
	}{
		{of(0, 0, false, 0, false), nil},
		{of(1, 0, false, 0, false), nil},
		{of(0, 1, false, 0, false), []int{0}},
		{of(1, 1, false, 0, false), []int{0}},
		{of(0, 0, false, 1, false), []int{1}},
		{of(1, 0, false, 1, false), []int{1}},
		{of(0, 0, true, 0, false), []int{0}},
		{of(1, 0, false, 0, true), []int{1}},
		{of(1, 0, true, 0, false), []int{0}},
		{of(0, 0, false, 0, true), []int{1}},
		{of(0, 7, false, 0, true), []int{0, 1}},
		{of(1, 7, false, 0, true), []int{1, 0}},
		{of(0, 0, true, 1, false), []int{0, 1}},
		{of(1, 0, true, 1, false), []int{1, 0}},
		{of(0, 0, true, 0, true), []int{0, 1}},
		{of(1, 0, true, 0, true), []int{1, 0}},
		{of(0, 1, false, 7, false), []int{0, 1}},
		{of(1, 7, false, 1, false), []int{1, 0}},
	} {
		if out, err := slots.Order(x.s); err != api.OK || !slices.Equal(out, x.list) {
			t.Errorf("Order(%v) = %v, %d; want %v", x.s, out, err, x.list)
		}
	}
	for _, s := range all() {
		orders(t, s)
	}
}

// P22.2: Try of a slot that is good, of one with tries left, of one with none.
func TestTry(t *testing.T) {
	for _, x := range []struct {
		s    api.Slots
		slot int
		made api.Slots
		code api.Errno
	}{
		{of(0, 0, true, 5, false), 0, of(0, 0, true, 5, false), api.OK},
		{of(1, 4, true, 5, false), 0, of(1, 4, true, 5, false), api.OK},
		{of(0, 3, false, 5, true), 1, of(0, 3, false, 5, true), api.OK},
		{of(0, 7, false, 5, false), 0, of(0, 6, false, 5, false), api.OK},
		{of(0, 7, false, 5, false), 1, of(0, 7, false, 4, false), api.OK},
		{of(1, 1, false, 1, false), 0, of(1, 0, false, 1, false), api.OK},
		{of(1, 1, false, 1, false), 1, of(1, 1, false, 0, false), api.OK},
		{of(0, 0, false, 5, false), 0, none, api.ErrSlot},
		{of(0, 5, true, 0, false), 1, none, api.ErrSlot},
		{of(1, 0, false, 0, false), 0, none, api.ErrSlot},
		{of(1, 0, false, 0, false), 1, none, api.ErrSlot},
	} {
		if out, err := slots.Try(x.s, x.slot); err != x.code || out != x.made {
			t.Errorf("Try(%v, %d) = %v, %d; want %v, %d", x.s, x.slot, out, err, x.made, x.code)
		}
	}
}

// P22.3: Confirm, of a slot that was good or not, tried or not, first or not; Install of the other one, and ErrArg of the first one.
func TestConfirmInstall(t *testing.T) {
	for _, x := range []struct {
		name string
		s    api.Slots
		slot int
		made api.Slots
		code api.Errno
	}{
		{"Confirm", of(0, 0, false, 0, false), 0, of(0, 0, true, 0, false), api.OK},
		{"Confirm", of(0, 0, false, 0, false), 1, of(1, 0, false, 0, true), api.OK},
		{"Confirm", of(0, 5, false, 3, true), 0, of(0, 0, true, 3, true), api.OK},
		{"Confirm", of(0, 5, false, 3, true), 1, of(1, 5, false, 0, true), api.OK},
		{"Confirm", of(1, 0, true, 7, false), 0, of(0, 0, true, 7, false), api.OK},
		{"Confirm", of(1, 4, true, 7, false), 0, of(0, 0, true, 7, false), api.OK},
		{"Install", of(0, 0, false, 0, false), 1, of(1, 0, false, 7, false), api.OK},
		{"Install", of(1, 0, false, 0, false), 0, of(0, 7, false, 0, false), api.OK},
		{"Install", of(0, 5, false, 3, true), 1, of(1, 5, false, 7, false), api.OK},
		{"Install", of(1, 2, true, 3, true), 0, of(0, 7, false, 3, true), api.OK},
		{"Install", of(0, 0, false, 0, false), 0, none, api.ErrArg},
		{"Install", of(1, 0, false, 0, false), 1, none, api.ErrArg},
		{"Install", of(0, 0, true, 5, false), 0, none, api.ErrArg},
		{"Install", of(1, 5, true, 5, true), 1, none, api.ErrArg},
	} {
		if out, err := calls()[x.name](x.s, x.slot); err != x.code || out != x.made {
			t.Errorf("%s(%v, %d) = %v, %d; want %v, %d", x.name, x.s, x.slot, out, err, x.made, x.code)
		}
	}
}

// P22.2, P22.3: Try, Confirm and Install of all that may be, and both slots; what they make may be, too.
func TestAll(t *testing.T) {
	for _, s := range all() {
		for name := range calls() {
			for slot := range 2 {
				if out := does(t, name, s, slot); slots.Check(out) != api.OK {
					t.Errorf("%s(%v, %d) = %v, that may not be", name, s, slot, out)
				}
			}
		}
	}
}

// tried are all that any row of tries of both slots comes to, from what is known.
func tried(s api.Slots) []api.Slots {
	out := []api.Slots{s}
	for i := 0; i < len(out); i++ {
		for slot := range 2 {
			next, err := slots.Try(out[i], slot)
			if err == api.OK && !slices.Contains(out, next) {
				out = append(out, next)
			}
		}
	}
	return out
}

// holds holds a slot to be one that may be tried: Order has it, and Try lets it be tried.
func holds(t *testing.T, what string, s api.Slots, slot int) {
	t.Helper()
	list, err := slots.Order(s)
	if err != api.OK || !slices.Contains(list, slot) {
		t.Fatalf("%s: Order(%v) = %v, %d: without slot %d", what, s, list, err, slot)
	}
	if _, err := slots.Try(s, slot); err != api.OK {
		t.Fatalf("%s: Try(%v, %d): %d", what, s, slot, err)
	}
}

// stored is what was laid down, and read again.
func stored(t *testing.T, s api.Slots) api.Slots {
	t.Helper()
	b, err := slots.Bytes(s)
	if err != api.OK {
		t.Fatalf("Bytes(%v): %d", s, err)
	}
	out, err := slots.Parse(b)
	if err != api.OK || out != s {
		t.Fatalf("Parse(Bytes(%v)) = %v, %d", s, out, err)
	}
	return out
}

// P22.4: behind a Confirm, whatever is tried, the slot that was confirmed may be tried, and is the first one; behind an Install of the other one it may, too, but is the second one.
func TestConfirmed(t *testing.T) {
	for _, s := range all() {
		for slot := range 2 {
			sure, err := slots.Confirm(s, slot)
			if err != api.OK {
				t.Fatalf("Confirm(%v, %d): %d", s, slot, err)
			}
			for _, next := range tried(stored(t, sure)) {
				holds(t, "behind Confirm", next, slot)
				if list, _ := slots.Order(next); list[0] != slot {
					t.Fatalf("Order(%v) = %v: slot %d was confirmed", next, list, slot)
				}
				if _, err := slots.Install(next, slot); err != api.ErrArg {
					t.Fatalf("Install(%v, %d): %d; want ErrArg", next, slot, err)
				}
				other, err := slots.Install(next, 1-slot)
				if err != api.OK {
					t.Fatalf("Install(%v, %d): %d", next, 1-slot, err)
				}
				for _, after := range tried(stored(t, other)) {
					holds(t, "behind Install", after, slot)
					if list, _ := slots.Order(after); list[0] != slot && list[1] != slot {
						t.Fatalf("Order(%v) = %v: slot %d was confirmed", after, list, slot)
					}
				}
			}
		}
	}
}

// P22.4: a slot that is not confirmed is tried as often as it had tries, and no more, whatever is tried of the other one.
func TestAtMost(t *testing.T) {
	r := rand.New(rand.NewSource(222))
	for _, s := range all() {
		for slot := range 2 {
			if s.Two[slot].Good {
				continue
			}
			now, done := s, 0
			for range 60 {
				one := r.Intn(2)
				next, err := slots.Try(now, one)
				if err != api.OK {
					continue
				}
				now = next
				if one == slot {
					done++
				}
			}
			if done > s.Two[slot].Tries {
				t.Errorf("slot %d of %v was tried %d times", slot, s, done)
			}
			for done <= s.Two[slot].Tries {
				next, err := slots.Try(now, slot)
				if err != api.OK {
					break
				}
				now = stored(t, next)
				done++
			}
			if done != s.Two[slot].Tries {
				t.Errorf("slot %d of %v was tried %d times, not %d", slot, s, done, s.Two[slot].Tries)
			}
			if out, err := slots.Try(now, slot); err != api.ErrSlot || out != none {
				t.Errorf("Try(%v, %d) = %v, %d; want ErrSlot", now, slot, out, err)
			}
		}
	}
}

// P22.4: something new that is never confirmed is tried seven times, and the one that was confirmed ahead of it any number of times.
func TestSeven(t *testing.T) {
	for slot := range 2 {
		s, _ := slots.Confirm(slots.Start(), slot)
		s, _ = slots.Install(s, 1-slot)
		for i := range tries {
			if list, err := slots.Order(s); err != api.OK || !slices.Equal(list, []int{1 - slot, slot}) {
				t.Fatalf("try %d: Order(%v) = %v, %d", i, s, list, err)
			}
			next, err := slots.Try(s, 1-slot)
			if err != api.OK {
				t.Fatalf("try %d of %v: %d", i, s, err)
			}
			s = next
		}
		for range 20 {
			if list, err := slots.Order(s); err != api.OK || !slices.Equal(list, []int{slot}) {
				t.Fatalf("Order(%v) = %v, %d", s, list, err)
			}
			if _, err := slots.Try(s, 1-slot); err != api.ErrSlot {
				t.Fatalf("Try(%v, %d): %d", s, 1-slot, err)
			}
			next, err := slots.Try(s, slot)
			if err != api.OK || next != s {
				t.Fatalf("Try(%v, %d) = %v, %d", s, slot, next, err)
			}
		}
	}
}

// P22.1 to P22.4: any row of deeds, from Start on, each stored and read again.
func TestRows(t *testing.T) {
	r := rand.New(rand.NewSource(223))
	names := []string{"Try", "Try", "Try", "Try", "Confirm", "Install"}
	for range 200 {
		s := slots.Start()
		for range 100 {
			name, slot := names[r.Intn(len(names))], r.Intn(2)
			if _, code := want(name, s, slot); code != api.OK {
				does(t, name, s, slot)
				continue
			}
			s = stored(t, does(t, name, s, slot))
			orders(t, s)
		}
	}
}

// R2: what was handed in stays as it was, also when what was handed back is written into afterwards; and the other way round.
func TestSlotsStay(t *testing.T) {
	for _, s := range append(all(), bad()...) {
		was := s
		for _, f := range calls() {
			for slot := range 2 {
				out, code := f(s, slot)
				out.First, out.Two[0], out.Two[1] = 9, api.Slot{Tries: 77}, api.Slot{Tries: 78, Good: true}
				if s != was {
					t.Fatalf("%v is now %v", was, s)
				}
				keep, _ := f(s, slot)
				first := keep
				s.First, s.Two[0], s.Two[1] = 8, api.Slot{Tries: 79, Good: true}, api.Slot{Tries: 80}
				if keep != first {
					t.Fatalf("what was handed back of %v is now %v, %d", was, keep, code)
				}
				s = was
			}
		}
	}
}

// R2: the lists that are handed back are new ones at each call.
func TestListsAlone(t *testing.T) {
	for _, s := range all() {
		b, _ := slots.Bytes(s)
		again, _ := slots.Bytes(s)
		list, _ := slots.Order(s)
		same, _ := slots.Order(s)
		was := slices.Clone(same)
		b, list = b[:cap(b)], list[:cap(list)]
		for i := range b {
			b[i] = 0xee
		}
		for i := range list {
			list[i] = 99
		}
		if !bytes.Equal(again, sheet(s)) || !slices.Equal(same, was) {
			t.Errorf("of %v: %x and %v", s, again, same)
		}
		lays(t, s)
		orders(t, s)
	}
}

// R2: bytes that are handed in are not written into, nor their spare room; what is read does not hang on them afterwards.
func TestBytesStay(t *testing.T) {
	for _, s := range all() {
		long := append(sheet(s), 1, 2, 3, 4, 5, 6, 7, 8)
		was := slices.Clone(long)
		for n := range 10 {
			slots.Parse(long[:n])
		}
		back, err := slots.Parse(long[:9])
		if err != api.OK || !bytes.Equal(long, was) {
			t.Fatalf("the bytes %x are now %x, %d", was, long, err)
		}
		for i := range long {
			long[i] = 0xee
		}
		if back != s {
			t.Fatalf("%v is now %v", s, back)
		}
	}
}

// R2: one call does not hang on those ahead of it.
func TestCallsAlone(t *testing.T) {
	s := of(1, 3, false, 2, false)
	for range 3 {
		reads(t, sheet(s), s)
		refuses(t, "a beginning", sheet(s)[:8])
		lays(t, s)
		orders(t, s)
		for slot := range 2 {
			for _, name := range []string{"Try", "Confirm", "Install"} {
				does(t, name, s, slot)
			}
		}
		if slots.Start() != none {
			t.Errorf("Start() = %v", slots.Start())
		}
	}
}
