package boot

// A chip's power goes in deeds alone, and reading is none. So a store that goes down at a read of a slot, behind one that went well, is one of these tests' own.

import (
	"bytes"
	"slices"
	"strconv"
	"testing"

	"casemate/api"
	"casemate/ed"
	"casemate/image"
)

// frail is flash of which one call is answered by an error. It keeps which calls there were.
type frail struct {
	lebs  map[int][]byte
	calls []string
	fails int // the number of that call, from 1 on
	err   api.Errno
}

// called keeps a call, and says what it is answered by.
func (f *frail) called(name string) api.Errno {
	f.calls = append(f.calls, name)
	if len(f.calls) == f.fails {
		return f.err
	}
	return api.OK
}

// Read: a logical block's bytes.
func (f *frail) Read(leb int) ([]byte, int, api.Errno) {
	if err := f.called("read " + strconv.Itoa(leb)); err != api.OK {
		return nil, 0, err
	}
	b, ok := f.lebs[leb]
	if !ok {
		return nil, 0, api.ErrNone
	}
	return bytes.Clone(b), 0, api.OK
}

// Change: its bytes.
func (f *frail) Change(leb int, data []byte) api.Errno {
	if err := f.called("change " + strconv.Itoa(leb)); err != api.OK {
		return err
	}
	f.lebs[leb] = bytes.Clone(data)
	return api.OK
}

// trusting is a ring with the key that made these tests' images.
func trusting() []api.Key {
	return []api.Key{{Number: 7, Bytes: ed.Public([32]byte{7})}}
}

// filled is flash with two images, of two segments and of one, whose slots both have two tries; the last segment of the first one is not what its manifest says, if broken.
func filled(t *testing.T, broken bool) *frail {
	t.Helper()
	zero, err := image.Make([32]byte{7}, api.Manifest{Key: 7, Segments: []api.Segment{{}, {Load: 9}}}, [][]byte{[]byte("loader"), []byte("system")})
	if err != api.OK {
		t.Fatalf("image.Make = %d", err)
	}
	one, err := image.Make([32]byte{7}, api.Manifest{Key: 7, Segments: []api.Segment{{}}}, [][]byte{[]byte("other")})
	if err != api.OK {
		t.Fatalf("image.Make = %d", err)
	}
	last := "system"
	if broken {
		last = "systen"
	}
	return &frail{lebs: map[int][]byte{
		0: []byte("slot\x00\x02\x00\x02\x00"), 1: zero, 2: []byte("loader"), 3: []byte(last), 6: one, 7: []byte("other"),
	}}
}

// isFailed says whether a launch has this error, and noughts else.
func isFailed(l api.Launch, err api.Errno) bool {
	return l.Err == err && l.Slot == 0 && l.Entry == 0 && l.Security == 0 && len(l.Loads) == 0
}

// bothTurns are the calls of two turns, the second of which comes to a launch.
func bothTurns() []string {
	return []string{"read 0", "change 0", "read 1", "read 2", "read 3", "change 0", "read 6", "read 7"}
}

// P24.2: what is asked of a store, one after the other: the change ahead of the manifest, the manifest ahead of its segments, and no segment that there is not; nothing behind a launch.
func TestCalls(t *testing.T) {
	f := filled(t, true)
	if l := launch(f, trusting(), 0); l.Err != api.OK || l.Slot != 1 || string(l.Loads[0].Data) != "other" {
		t.Errorf("launch = %v", l)
	}
	if !slices.Equal(f.calls, bothTurns()) {
		t.Errorf("the calls are %q; want %q", f.calls, bothTurns())
	}
	f = filled(t, false)
	if l := launch(f, trusting(), 0); l.Err != api.OK || l.Slot != 0 || len(l.Loads) != 2 {
		t.Errorf("launch = %v", l)
	}
	if !slices.Equal(f.calls, bothTurns()[:5]) {
		t.Errorf("the calls are %q; want %q", f.calls, bothTurns()[:5])
	}
}

// P24.2: segments are read behind a manifest that holds alone, and not where a slot has no room for them.
func TestCallsOfRefused(t *testing.T) {
	five, err := image.Make([32]byte{7}, api.Manifest{Key: 7, Segments: make([]api.Segment, 5)}, make([][]byte, 5))
	if err != api.OK {
		t.Fatalf("image.Make = %d", err)
	}
	for _, signed := range [][]byte{nil, five, five[:len(five)-1]} {
		f := filled(t, false)
		f.lebs[1] = signed
		if l := launch(f, trusting(), 0); l.Err != api.OK || l.Slot != 1 {
			t.Errorf("launch = %v", l)
		}
		want := slices.Delete(bothTurns(), 3, 5)
		if !slices.Equal(f.calls, want) {
			t.Errorf("the calls are %q; want %q", f.calls, want)
		}
	}
}

// P24.2: no segments are read behind a manifest whose Security is below the fuse, or whose key is not in the ring.
func TestCallsOfOld(t *testing.T) {
	want := []string{"read 0", "change 0", "read 1", "change 0", "read 6"}
	for fuse, ring := range [][]api.Key{nil, trusting()} {
		f := filled(t, false)
		if l := launch(f, ring, fuse); !isFailed(l, api.ErrSlot) {
			t.Errorf("launch = %v; want ErrSlot", l)
		}
		if !slices.Equal(f.calls, want) {
			t.Errorf("the calls are %q; want %q", f.calls, want)
		}
	}
}

// P24.1, P24.2: the store goes down at each read and at each change: that ends it with ErrDown, and nothing more is asked of it.
func TestDownAtEach(t *testing.T) {
	for n := range len(bothTurns()) {
		f := filled(t, true)
		f.fails, f.err = n+1, api.ErrDown
		if l := launch(f, trusting(), 0); !isFailed(l, api.ErrDown) {
			t.Errorf("down at %q: launch = %v; want ErrDown", bothTurns()[n], l)
		}
		if !slices.Equal(f.calls, bothTurns()[:n+1]) {
			t.Errorf("down at %q: the calls are %q", bothTurns()[n], f.calls)
		}
	}
}

// P24.2: other errors: of the first read nothing is known, of a change it is the launch's, of a slot's read the next one has its turn.
func TestErrorAtEach(t *testing.T) {
	for _, err := range []api.Errno{api.ErrArg, api.ErrLong, api.ErrNil, api.ErrNone, api.ErrFull, api.ErrFlips, api.ErrTorn, api.ErrBlank, api.ErrBad, api.ErrSlot} {
		for n, call := range bothTurns() {
			f := filled(t, true)
			f.fails, f.err = n+1, err
			l := launch(f, trusting(), 0)
			switch {
			case call == "change 0":
				if !isFailed(l, err) || len(f.calls) != n+1 {
					t.Errorf("%d at %q: launch = %v, behind %q", err, call, l, f.calls)
				}
			case n == 0 || n > 5:
				if !isFailed(l, api.ErrSlot) || len(f.calls) != n+1 {
					t.Errorf("%d at %q: launch = %v, behind %q", err, call, l, f.calls)
				}
			default:
				if l.Err != api.OK || l.Slot != 1 || !slices.Equal(f.calls[n+1:], bothTurns()[5:]) {
					t.Errorf("%d at %q: launch = %v, behind %q", err, call, l, f.calls)
				}
			}
		}
	}
}
