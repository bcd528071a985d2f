package admin

import (
	"slices"
	"testing"

	"garth/api"
)

// P20.4

// crowd has objects of each small kind and runs, of noise, and answers their handles.
func (w *town) crowd(id int) []uint64 {
	w.Helper()
	var all []uint64
	for i, n := range []int{1, 16, 20, 48, 50, 90, 128, 150, 250, 512, 600, 1500} {
		all = append(all, w.filled(id, n, i))
	}
	return all
}

func TestDestroyLeavesNoughts(t *testing.T) {
	w := found(t, 600, 6)
	w.ok(w.create(2, 2, 6000))
	w.ok(w.create(4, 1, 3000))
	mine := w.filled(4, 700, 99)
	w.crowd(2)
	pages := heldBy(w.a.Tenant(2))
	if len(pages) < 12 {
		t.Fatal(pages)
	}
	w.ok(w.destroy(2))
	for _, page := range pages {
		if got, _ := w.a.Arena().Read(512*page, 512); got != noughts(512) {
			t.Fatalf("the page %d isn't 0", page)
		}
	}
	w.a.Arena().Forget()
	if w.a.Tenant(2) != nil || len(w.a.Window(2)) != 0 || w.a.Free() != 5 || w.a.Serial(2) != 13 {
		t.Fatal(w.a.Window(2), w.a.Free(), w.a.Serial(2))
	}
	w.is(w.destroy(2), api.ErrNoTenant)
	w.reads(4, mine, noise(700, 99))
}

// All pages are free again: who comes next may have all that its quota says, at the addresses of a fresh system.
func TestCreateBehindDestroy(t *testing.T) {
	for _, next := range []int{0, 7} {
		w := found(t, 4*120, 4)
		w.ok(w.create(0, 1, 6000))
		w.ok(w.create(1, 3, 100))
		old := w.crowd(0)
		blocks := w.a.Tenant(0).Blocks()
		pages := heldBy(w.a.Tenant(0))
		for _, h := range old[:3] {
			if r := w.a.Tenant(0).Restrict(h, api.MayRead); r.Err != api.OK || w.guests[0].x.Restrict(h, api.MayRead) != r {
				t.Fatal(r)
			}
		}
		serial := w.a.Serial(0)
		if serial != 1+len(old)+3 {
			t.Fatal(serial)
		}
		w.ok(w.destroy(0))
		w.ok(w.create(next, 1, 6000))
		if got := w.a.Window(next); !slices.Equal(got, []int{0}) {
			t.Fatal(got)
		}
		first := map[int]int{0: serial, 7: 1}[next]
		if w.a.Serial(next) != first {
			t.Fatal(w.a.Serial(next), first)
		}
		fresh := w.crowd(next)
		for i, h := range fresh {
			if want := bitsOf(next, i, first+i); h != want {
				t.Fatal(h, want)
			}
		}
		if !slices.Equal(w.a.Tenant(next).Blocks(), blocks) || !slices.Equal(heldBy(w.a.Tenant(next)), pages) {
			t.Fatal("not as on a fresh system")
		}
		w.refuses(next, old)
	}
}

// refuses wants these handles to be good for nothing.
func (w *town) refuses(id int, all []uint64) {
	w.Helper()
	x := w.a.Tenant(id)
	want := api.Answer{Err: api.ErrBadHandle, Charged: x.Charged()}
	for _, h := range all {
		for i, got := range []api.Answer{x.Usable(h), x.Read(h, 0, 0), x.Write(h, 0, ""), x.Free(h), x.Realloc(h, 1), x.Restrict(h, 1)} {
			if got != want {
				w.Fatalf("%d, call %d with the old handle %d: %+v", id, i, h, got)
			}
		}
	}
	w.same("old handles")
}

// The handles of one that is gone, and restricted ones of it, are good for nobody, however many come behind it under its number.
func TestHandlesOfOneThatIsGone(t *testing.T) {
	w := found(t, 3*60, 3)
	w.ok(w.create(6, 1, 100))
	var old []uint64
	for range 4 {
		w.ok(w.create(3, 2, 3000))
		h := w.filled(3, 40, 1)
		less := w.a.Tenant(3).Restrict(h, api.MayRead|api.MayWrite)
		if want := w.guests[3].x.Restrict(h, api.MayRead|api.MayWrite); less != want || less.Err != api.OK {
			t.Fatal(less, want)
		}
		w.refuses(3, old)
		w.refuses(6, append([]uint64{h, less.Handle}, old...))
		old = append(old, h, less.Handle)
		w.ok(w.destroy(3))
		w.refuses(6, old)
	}
	if w.a.Serial(3) != 9 || w.a.Serial(6) != 1 {
		t.Fatal(w.a.Serial(3), w.a.Serial(6))
	}
}

// The serial goes on by what was granted, whether that was had or not, and is each number's own.
func TestSerials(t *testing.T) {
	w := found(t, 128, 4)
	for round := range 3 {
		w.ok(w.create(1, 1, 300))
		w.ok(w.create(5, 1, 300))
		if w.a.Serial(1) != 1+3*round || w.a.Serial(5) != 1+round {
			t.Fatal(round, w.a.Serial(1), w.a.Serial(5))
		}
		h := w.malloc(1, 20).Handle
		if w.a.Serial(1) != 2+3*round {
			t.Fatal(w.a.Serial(1))
		}
		h = w.realloc(1, h, 60).Handle
		w.free(1, h)
		w.malloc(1, 256)
		w.is(w.malloc(1, 60).Err, api.ErrQuota)
		w.malloc(5, 1)
		w.ok(w.resize(1, 2, 300))
		if w.a.Serial(1) != 4+3*round {
			t.Fatal(w.a.Serial(1))
		}
		w.ok(w.destroy(1))
		w.ok(w.destroy(5))
		for id := range 8 {
			if want := map[int]int{1: 4 + 3*round, 5: 2 + round}[id]; w.a.Serial(id) != max(want, 1) {
				t.Fatal(id, w.a.Serial(id))
			}
		}
	}
}

// At the end of the serials one may be there still, but has nothing.
func TestTheSerialAtItsEnd(t *testing.T) {
	const end = 1 << 44
	w := found(t, 64, 4)
	w.a.serials[2], w.serials[2] = end-2, end-2
	w.ok(w.create(2, 1, 100))
	if r := w.malloc(2, 16); r.Handle != bitsOf(2, 0, end-2) {
		t.Fatal(r)
	}
	w.ok(w.destroy(2))
	if w.a.Serial(2) != end-1 {
		t.Fatal(w.a.Serial(2))
	}
	w.ok(w.create(2, 1, 100))
	last := w.malloc(2, 16)
	if last.Handle != bitsOf(2, 0, end-1) || w.a.Serial(2) != end {
		t.Fatal(last, w.a.Serial(2))
	}
	w.is(w.malloc(2, 16).Err, api.ErrMany)
	w.is(w.realloc(2, last.Handle, 17).Err, api.ErrMany)
	w.ok(w.resize(2, 2, 16))
	w.ok(w.destroy(2))
	for range 2 {
		w.ok(w.create(2, 1, 100))
		if w.a.Serial(2) != end {
			t.Fatal(w.a.Serial(2))
		}
		w.is(w.malloc(2, 16).Err, api.ErrMany)
		w.refuses(2, []uint64{last.Handle})
		w.ok(w.destroy(2))
		if w.a.Serial(2) != end {
			t.Fatal(w.a.Serial(2))
		}
	}
	// Other numbers go on.
	w.ok(w.create(3, 1, 100))
	if r := w.malloc(3, 16); r.Handle != bitsOf(3, 0, 1) {
		t.Fatal(r)
	}
}

func TestDestroyOfOneThatHasNothing(t *testing.T) {
	w := found(t, 64, 4)
	w.ok(w.create(0, 4, 100))
	w.ok(w.destroy(0))
	w.ok(w.create(7, 4, 100))
	h := w.filled(7, 90, 1)
	w.free(7, h)
	w.ok(w.destroy(7))
	if w.a.Free() != 4 || w.a.Serial(7) != 2 || w.a.Serial(0) != 1 {
		t.Fatal(w.a.Free(), w.a.Serial(7))
	}
}

// Whoever was handed a tenant may have it still when that is gone: it takes no page, and what it was told is nothing to who is there.
func TestOneThatIsGoneTakesNothing(t *testing.T) {
	w := found(t, 4*pagesFor(2000), 4)
	w.ok(w.create(0, 2, 2000))
	w.ok(w.create(1, 1, 100))
	old := w.filled(0, 1000, 1)
	w.ok(w.destroy(0))
	w.ok(w.create(3, 2, 2000))
	w.ok(w.create(0, 1, 2000))
	x := w.gone[0]
	for _, id := range []int{0, 3} {
		h := w.filled(id, 1000, 2)
		for i, r := range []api.Answer{x.Malloc(1), x.Malloc(512), x.Malloc(8192), x.Calloc(2, 20)} {
			if r != (api.Answer{Err: api.ErrQuota}) {
				t.Fatalf("call %d: %+v", i, r)
			}
		}
		for i, r := range []api.Answer{x.Usable(h), x.Usable(old), x.Read(h, 0, 1), x.Write(old, 0, "a"), x.Free(h), x.Realloc(old, 2), x.Restrict(h, 1)} {
			if r != (api.Answer{Err: api.ErrBadHandle}) {
				t.Fatalf("call %d: %+v", i, r)
			}
		}
		x.Drop()
		w.same("calls of one that is gone")
	}
	if x.Charged() != 0 || len(x.Blocks()) != 0 || x.Heap().Pages() != 0 || x.Serial() != 2 {
		t.Fatal(x.Charged(), x.Blocks(), x.Heap().Pages(), x.Serial())
	}
}
