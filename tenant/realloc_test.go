package tenant

import (
	"fmt"
	"strings"
	"testing"

	"garth/api"
)

func noughts(n int) string { return strings.Repeat("\x00", n) }

// P18.4

func TestReallocToTheSameSize(t *testing.T) {
	for _, n := range sizes() {
		// No byte more is left to have: it is in place.
		w := lay(t, unitFor(n))
		h := w.filled(n, 1)
		before := w.x.Blocks()[0]
		if r := w.realloc(h, n); r != (api.Answer{Handle: h, Addr: before.Addr, Charged: unitFor(n)}) {
			t.Fatalf("%d bytes: %+v", n, r)
		}
		if w.x.Blocks()[0] != before || w.x.Serial() != 2 {
			t.Fatalf("%d bytes: %v", n, w.x.Blocks())
		}
		w.reads(h, noise(n, 1))
	}
}

func TestReallocInPlace(t *testing.T) {
	for _, n := range sizes() {
		unit := unitFor(n)
		w := lay(t, unit)
		h := w.filled(n, 1)
		data := noise(n, 1)
		for _, next := range []int{unit, unit - 1, unit/2 + 1, unit/2 + 3, unit / 3, unit, 1, 2, unit, n, unit / 2, unit/2 + 1, unit} {
			if next < 1 {
				continue
			}
			r := w.realloc(h, next)
			if r.Err != api.OK || r.Handle != h || r.Charged != unit || w.x.Blocks()[0].Size != next || w.x.Blocks()[0].Usable != unit {
				t.Fatalf("%d bytes, Realloc to %d: %+v, %v", n, next, r, w.x.Blocks())
			}
			data = (data + noughts(unit))[:next]
			w.reads(h, data)
			if next%2 == 1 {
				w.good(w.write(h, next-1, "!"))
				data = data[:next-1] + "!"
			}
		}
		if w.x.Serial() != 2 || w.usable(h).N != unit {
			t.Fatal(w.x.Serial())
		}
	}
}

// A lesser size keeps its block, whatever it would cost anew: only a free and a malloc cost less.
func TestReallocToFewerBytesChargesAsMany(t *testing.T) {
	w := lay(t, 8192)
	h := w.filled(8192, 1)
	for _, n := range []int{8191, 4000, 512, 300, 256, 100, 16, 1} {
		if r := w.realloc(h, n); r.Err != api.OK || r.Handle != h || r.Charged != 8192 {
			t.Fatal(n, r)
		}
		w.bad(w.malloc(1), api.ErrQuota)
		w.reads(h, noise(8192, 1)[:n])
	}
	w.good(w.realloc(h, 8192))
	w.reads(h, noise(1, 1)+noughts(8191))
}

func TestReallocToAnotherKind(t *testing.T) {
	for _, n := range sizes() {
		for _, next := range []int{unitFor(n) + 1, unitFor(n) + 20, 2 * unitFor(n), 8192} {
			if next <= unitFor(n) || next > 8192 {
				continue
			}
			quota := unitFor(n) + unitFor(next)
			w := lay(t, quota)
			h := w.filled(n, 1)
			old := w.x.Blocks()[0]
			r := w.realloc(h, next)
			if r.Err != api.OK || r.Handle != bitsOf(3, 7, 0, 2) || r.Addr == old.Addr || r.Charged != unitFor(next) {
				t.Fatalf("%d to %d bytes: %+v", n, next, r)
			}
			if b := w.x.Blocks(); len(b) != 1 || b[0] != (api.Block{Addr: r.Addr, Size: next, Usable: unitFor(next)}) {
				t.Fatalf("%d to %d bytes: %v", n, next, b)
			}
			w.reads(r.Handle, noise(n, 1)+noughts(next-n))
			w.bad(w.usable(h), api.ErrBadHandle)
			// The old block is free.
			if got := w.malloc(n); got.Addr != old.Addr || got.Charged != quota {
				t.Fatalf("%d to %d bytes, and another one: %+v", n, next, got)
			}
		}
	}
}

// Of an object that was cut, its size counts, and not what its block has.
func TestReallocOfWhatWasCut(t *testing.T) {
	w := lay(t, 3000)
	h := w.filled(700, 1)
	w.good(w.realloc(h, 600))
	w.touched("Realloc", func() {
		h = w.x.Realloc(h, 1200).Handle
	}, read(0, 512), read(512, 88), wrote(1024, 512), wrote(1536, 88), wrote(0, 512), wrote(512, 512))
	if r := w.x.Read(h, 0, 1200); r.Data != noise(700, 1)[:600]+noughts(600) {
		t.Fatalf("%q", r.Data)
	}
}

func TestReallocToARunAndBack(t *testing.T) {
	w := lay(t, 4000)
	h, other := w.filled(100, 1), w.filled(100, 2)
	h = w.good(w.realloc(h, 1000))
	w.reads(h, noise(100, 1)+noughts(900))
	w.good(w.write(h, 90, noise(910, 3)))
	// Back to a small size it stays in its run, and grows in it.
	if w.good(w.realloc(h, 95)) != h {
		t.Fatal("another handle")
	}
	w.charged(1024 + 128)
	w.reads(h, noise(90, 1)+noise(910, 3)[:5])
	if w.good(w.realloc(h, 1024)) != h {
		t.Fatal("another handle")
	}
	w.reads(h, noise(90, 1)+noise(910, 3)[:5]+noughts(1024-95))
	h = w.good(w.realloc(h, 1025))
	w.charged(1536 + 128)
	w.reads(h, noise(90, 1)+noise(910, 3)[:5]+noughts(1025-95))
	w.reads(other, noise(100, 2))
	w.free(h)
	w.charged(128)
}

func TestReallocOfAnObjectWithShares(t *testing.T) {
	for rights := 4; rights <= 7; rights++ {
		w := lay(t, 400)
		h, other := w.filled(20, 1), w.filled(20, 2)
		share, theirs := w.good(w.restrict(h, rights)), w.good(w.restrict(other, rights))
		reads := w.good(w.restrict(h, 1))
		// In place the handle that was handed in is answered, with the rights that it has, and all stay good.
		r := w.realloc(share, 30)
		if r.Handle != share {
			t.Fatal(r)
		}
		w.good(w.usable(h))
		w.reads(reads, noise(20, 1)+noughts(10))
		// Where it moves one handle is good, with all rights, whatever rights the old one had.
		r = w.realloc(share, 40)
		if r.Handle != bitsOf(3, 7, 0, 6) {
			t.Fatal(r)
		}
		w.dead(h, share, reads)
		w.reads(r.Handle, noise(20, 1)+noughts(20))
		w.good(w.write(r.Handle, 0, "x"))
		w.good(w.usable(theirs))
		// The slots of the shares are free again.
		if s := w.restrict(r.Handle, 3); s.Handle != bitsOf(3, 3, 4096, 7) {
			t.Fatal(s)
		}
		w.reads(other, noise(20, 2))
	}
}

// The document has the old handles revoked, and then the object has a handle: in the lowest slot that is free then.
func TestReallocTakesTheOldSlot(t *testing.T) {
	w := lay(t, 1000)
	all := []uint64{w.filled(20, 0), w.filled(20, 1), w.filled(20, 2)}
	if r := w.realloc(all[1], 40); r.Handle != bitsOf(3, 7, 1, 4) {
		t.Fatal(r)
	}
	w.free(all[0])
	if r := w.realloc(all[2], 40); r.Handle != bitsOf(3, 7, 0, 5) {
		t.Fatal(r)
	}
	if r := w.malloc(1); r.Handle != bitsOf(3, 7, 2, 6) {
		t.Fatal(r)
	}
}

func TestReallocWithRoomForTheNewBlockAlone(t *testing.T) {
	for _, n := range []int{16, 48, 256, 512, 1024} {
		for _, next := range []int{n + 1, 2 * n, 4000} {
			both := unitFor(n) + unitFor(next)
			for quota := both - 1; quota <= both; quota++ {
				w := lie(t, pagesFor(both), 1).settle(3, 1, quota, 0)
				h := w.filled(n, 1)
				r := w.realloc(h, next)
				if quota == both {
					w.reads(w.good(r), noise(n, 1)+noughts(next-n))
					continue
				}
				w.bad(r, api.ErrQuota)
				w.reads(h, noise(n, 1))
				w.charged(n)
				if w.x.Serial() != 2 {
					t.Fatal(w.x.Serial())
				}
				// By hand it is another thing.
				w.free(h)
				w.has(next)
			}
		}
	}
}

func TestReallocKeepsOthers(t *testing.T) {
	w := lay(t, 4000)
	var all []uint64
	for i := range 12 {
		all = append(all, w.filled(20+i*3, i))
	}
	for i, h := range all {
		if i%2 == 0 {
			all[i] = w.good(w.realloc(h, 60+i*20))
		} else {
			w.good(w.realloc(h, 3))
		}
	}
	for i, h := range all {
		if i%2 == 0 {
			w.reads(h, noise(20+i*3, i)+noughts(40+i*17))
		} else {
			w.reads(h, noise(3, i))
		}
	}
}

// P18.7

// All bytes that weren't written yet are 0, wherever the block was ahead of that, and whoever had it.
func TestBytesThatWerentWritten(t *testing.T) {
	w := lay(t, 3000)
	for round := range 6 {
		var all []uint64
		for i, n := range []int{1, 16, 17, 40, 100, 250, 512, 700} {
			h := w.has(n)
			w.reads(h, noughts(n))
			w.good(w.write(h, n/3, noise(n-n/3, i)))
			w.reads(h, noughts(n/3)+noise(n-n/3, i))
			w.good(w.realloc(h, n/2+1))
			w.good(w.realloc(h, unitFor(n)))
			w.reads(h, (noughts(n/3) + noise(n-n/3, i))[:n/2+1]+noughts(unitFor(n)-n/2-1))
			w.good(w.write(h, 0, noise(unitFor(n), round)))
			all = append(all, h)
		}
		for i := range all {
			w.free(all[(i*3+round)%8])
		}
		if round == 3 {
			w.drop()
		}
		w.charged(0)
	}
}

func TestWhatWasWrittenLast(t *testing.T) {
	w := lay(t, 3000)
	h, other := w.filled(700, 1), w.filled(40, 2)
	data := []byte(noise(700, 1))
	for i := range 60 {
		from, text := i*37%690, fmt.Sprintf("%d%s", i, noise(i%9, i))
		text = text[:min(len(text), 700-from)]
		w.good(w.write(h, from, text))
		copy(data[from:], text)
		w.reads(h, string(data))
	}
	w.reads(other, noise(40, 2))
}
