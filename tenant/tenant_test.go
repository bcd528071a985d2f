package tenant

import (
	"fmt"
	"math"
	"slices"
	"strings"
	"testing"

	"garth/api"
	"garth/colour"
	"garth/demand"
	"garth/heap"
)

// far are numbers that are no size, no place in an object and no colour; the lower bits of some would be.
var far = []int{
	math.MinInt, math.MinInt + 1, math.MinInt + 40, -1 << 32, -1<<32 + 40, math.MinInt32, -8192, -512, -48, -16, -1,
	1 << 20, 1<<32 + 1, 1<<32 + 40, 1<<44 + 1, 1<<53 + 1, 1<<62 + 40, math.MaxInt32, math.MaxInt - 40, math.MaxInt - 1, math.MaxInt,
}

// sizes are the least and the greatest number of bytes of each kind.
func sizes() []int {
	out := []int{1}
	for _, unit := range units {
		out = append(out, unit, unit+1)
	}
	for m := 1; m < 16; m++ {
		out = append(out, m*512, m*512+1)
	}
	return append(out, 8192)
}

func wrote(at, n int) api.Span { return api.Span{At: at, N: n, Wrote: true} }

func read(at, n int) api.Span { return api.Span{At: at, N: n} }

// touched wants just these touches of a call.
func (w *twin) touched(what string, call func(), want ...api.Span) {
	w.Helper()
	w.a.Forget()
	call()
	if got := w.a.Touched(); !slices.Equal(got, want) {
		w.Fatalf("%s touched %v, wanted %v", what, got, want)
	}
	w.a.Forget()
}

// The chapter's examples, and those of the whole that a tenant answers.
func TestExamples(t *testing.T) {
	w := lie(t, 64, 4).settle(0, 1, 100, 0)
	one := w.malloc(40)
	if one != (api.Answer{Handle: 1048688, Addr: 393216, Charged: 48}) {
		t.Fatal(one)
	}
	two := w.malloc(40)
	w.charged(96)
	w.bad(w.malloc(1), api.ErrQuota)
	if r := w.realloc(one.Handle, 48); r.Err != api.OK || r.Handle != one.Handle || r.Addr != one.Addr {
		t.Fatal(r)
	}
	w.bad(w.realloc(one.Handle, 49), api.ErrQuota)
	w.free(two.Handle)
	w.charged(48)
	w.bad(w.malloc(60), api.ErrQuota)
	w.reads(one.Handle, strings.Repeat("\x00", 48))
	w.write(one.Handle, 3, "what was written")
	if r := w.read(one.Handle, 3, 16); r.Data != "what was written" {
		t.Fatal(r)
	}
	w.bad(w.read(one.Handle, 0, 49), api.ErrRange)
	if err := w.resize(200, 0); err != api.OK {
		t.Fatal(err)
	}
	next := w.realloc(one.Handle, 49)
	if next.Err != api.OK || next.Handle == one.Handle || next.Charged != 64 {
		t.Fatal(next)
	}
	w.bad(w.read(one.Handle, 0, 1), api.ErrBadHandle)
	less := w.restrict(next.Handle, api.MayRead)
	if less.Err != api.OK {
		t.Fatal(less)
	}
	w.bad(w.write(less.Handle, 0, "x"), api.ErrBadHandle)
}

// P18.1

func TestNewWithoutArenaOrMap(t *testing.T) {
	a, m := raw(t, 64, 4)
	for _, id := range []int{0, 8} {
		for _, quota := range []int{0, 100, 65536} {
			if x, err := New(nil, m, id, 1, quota, 0); x != nil || err != api.ErrNil {
				t.Fatal("no arena:", x, err)
			}
			if x, err := New(a, nil, id, 1, quota, 0); x != nil || err != api.ErrNil {
				t.Fatal("no map:", x, err)
			}
			if x, err := New(nil, nil, id, 1, quota); x != nil || err != api.ErrNil {
				t.Fatal("neither:", x, err)
			}
		}
	}
	if m.Free(0, 1, 2, 3) != 64 || len(a.Touched()) != 0 {
		t.Fatal("something was done")
	}
}

func TestIdsAndSerials(t *testing.T) {
	a, m := raw(t, 64, 4)
	refused := func(id, serial int) {
		t.Helper()
		if x, err := New(a, m, id, serial, 100, 0); x != nil || err != api.ErrArg {
			t.Fatalf("New of %d, %d: %v, %d", id, serial, x, err)
		}
	}
	for _, id := range append([]int{-2, 8, 9, 16, 4096}, far...) {
		refused(id, 1)
		refused(id, 0)
	}
	for _, serial := range []int{0, -1, math.MinInt, math.MinInt + 1, 1<<44 + 1, 1 << 45, 1 << 62, math.MaxInt} {
		refused(0, serial)
		refused(7, serial)
	}
	for id := range 8 {
		for _, serial := range []int{1, 2, 1000, 1<<44 - 1, 1 << 44} {
			w := lie(t, 64, 4).settle(id, serial, 100, 2)
			if w.x.Serial() != serial {
				t.Fatal(id, serial, w.x.Serial())
			}
			if serial <= lastSerial && w.has(1) != uint64(id)+7*16+uint64(serial)<<20 {
				t.Fatal(id, serial, w.given)
			}
		}
	}
}

func TestQuotas(t *testing.T) {
	a, m := raw(t, 4096, 1)
	for _, quota := range append([]int{0, -2, 65537, 65538, 131072, 1 << 40}, far...) {
		if x, err := New(a, m, 0, 1, quota, 0); x != nil || err != api.ErrSize {
			t.Fatalf("quota %d: %v, %d", quota, x, err)
		}
	}
	for _, quota := range []int{1, 2, 15, 16, 17, 100, 511, 512, 513, 8191, 8192, 32768, 65535, 65536} {
		x, err := New(a, m, 0, 1, quota, 0)
		if err != api.OK || x.Quota() != quota || x.Charged() != 0 || len(x.Blocks()) != 0 || x.Serial() != 1 {
			t.Fatalf("quota %d: %v, %d", quota, x, err)
		}
		if x.Heap() == nil || x.Heap().Pages() != 0 || !slices.Equal(x.Heap().Window(), []int{0}) || x.Heap() != x.Heap() {
			t.Fatalf("quota %d: its heap is %v", quota, x.Heap())
		}
	}
	if m.Free(0) != 4096 || len(a.Touched()) != 0 {
		t.Fatal("New took pages, or touched bytes")
	}
}

func TestLeastQuota(t *testing.T) {
	// One byte takes no page, and has no block.
	w := lie(t, 2, 2).settle(0, 1, 1)
	w.bad(w.malloc(1), api.ErrQuota)
	w = lie(t, 2, 2).settle(0, 1, 15, 1)
	w.bad(w.malloc(1), api.ErrQuota)
	w = lie(t, 2, 2).settle(0, 1, 16, 1)
	w.has(16)
	w.bad(w.malloc(1), api.ErrQuota)
}

func TestJustAsManyPagesAndOneFewer(t *testing.T) {
	for _, quota := range []int{16, 17, 31, 32, 48, 100, 512, 513, 1000, 1024, 4096, 65536} {
		n := pagesFor(quota)
		if s, err := demand.Of(quota); err != api.OK || s.Pages() != n {
			t.Fatal(quota, n, s, err)
		}
		for _, colours := range []int{1, 3} {
			a, m := raw(t, n*colours, colours)
			if x, err := New(a, m, 0, 1, quota, colours-1); err != api.OK || x == nil {
				t.Fatalf("quota %d, %d pages: %d", quota, n, err)
			}
			if n == 1 {
				continue
			}
			a, m = raw(t, (n-1)*colours, colours)
			if x, err := New(a, m, 0, 1, quota, colours-1); err != api.ErrFit || x != nil {
				t.Fatalf("quota %d, %d pages: %d", quota, n-1, err)
			}
		}
	}
}

func TestWindows(t *testing.T) {
	// Four colours of five pages; 100 bytes take 5 of them, 512 take 9, 600 take 15.
	if pagesFor(100) != 5 || pagesFor(512) != 9 || pagesFor(600) != 15 {
		t.Fatal(pagesFor(100), pagesFor(512), pagesFor(600))
	}
	for _, one := range []struct {
		window []int
		fits   [4]bool
	}{
		{nil, [4]bool{true}},
		{[]int{}, [4]bool{true}},
		{[]int{-1}, [4]bool{true}},
		{[]int{4}, [4]bool{true}},
		{[]int{5, 6, 19, 20}, [4]bool{true}},
		{far, [4]bool{true}},
		{[]int{0}, [4]bool{true, true}},
		{[]int{3}, [4]bool{true, true}},
		{[]int{3, 3, 3, 3}, [4]bool{true, true}},
		{[]int{-1, 2, 4, 2, 8}, [4]bool{true, true}},
		{[]int{2, 0}, [4]bool{true, true, true}},
		{[]int{2, 0, 2, 0, 99}, [4]bool{true, true, true}},
		{[]int{2, 0, 3}, [4]bool{true, true, true, true}},
		{append(append([]int{3, 1}, far...), 1, 2, 3), [4]bool{true, true, true, true}},
	} {
		for i, quota := range []int{1, 100, 512, 600} {
			if one.fits[i] {
				lie(t, 20, 4).settle(1, 1, quota, one.window...)
				continue
			}
			a, m := raw(t, 20, 4)
			if x, err := New(a, m, 1, 1, quota, one.window...); x != nil || err != api.ErrFit {
				t.Fatalf("window %v, quota %d: %v, %d", one.window, quota, x, err)
			}
		}
	}
}

// Whose pages are free is nothing to New: the window's pages are all that its colours have.
func TestNewCountsPagesThatAreTaken(t *testing.T) {
	l := lie(t, 10, 2)
	for range 5 {
		l.m.Take(1)
		l.n.Take(1)
	}
	w := l.settle(0, 1, 100, 1)
	w.bad(w.malloc(1), api.ErrMany)
}

func TestTheFirstOfNewsErrors(t *testing.T) {
	a, m := raw(t, 64, 4)
	for _, one := range []struct {
		id, serial, quota int
		window            []int
		want              api.Errno
	}{
		{8, 0, 0, nil, api.ErrArg},
		{8, 1, 0, nil, api.ErrArg},
		{0, 0, 65537, []int{0}, api.ErrArg},
		{0, 1<<44 + 1, 65536, []int{0}, api.ErrArg},
		{-1, 1, 65536, []int{0}, api.ErrArg},
		{0, 1, 0, nil, api.ErrSize},
		{0, 1, 65537, []int{0}, api.ErrSize},
		{0, 1, 65537, []int{0, 1, 2, 3}, api.ErrSize},
		{0, 1, 65536, []int{0, 1, 2, 3}, api.ErrFit},
		{0, 1, 16, nil, api.ErrFit},
		{0, 1, 16, []int{0}, api.OK},
	} {
		x, err := New(a, m, one.id, one.serial, one.quota, one.window...)
		if err != one.want || (x != nil) != (err == api.OK) {
			t.Fatalf("%+v: %v, %d", one, x, err)
		}
		if one.want != api.OK {
			if _, err := New(nil, m, one.id, one.serial, one.quota, one.window...); err != api.ErrNil {
				t.Fatalf("%+v, no arena: %d", one, err)
			}
		}
	}
}

func TestWindowsAndBlocksAreNotKept(t *testing.T) {
	l := lie(t, 64, 4)
	back := []int{2, 0, 77, 88}
	w := l.settle(0, 1, 100, back[:2]...)
	if !slices.Equal(back, []int{2, 0, 77, 88}) {
		t.Fatal(back)
	}
	back[0], back[1] = 1, 3
	w.same("the window that was handed in is another one")
	w.has(16)
	w.has(40)
	list := append(w.x.Blocks(), api.Block{})
	for i := range list {
		list[i] = api.Block{Addr: -5, Size: -6, Usable: -7}
	}
	w.same("what Blocks answered is another one")
	back = []int{3, 1, 77, 88}
	if err := w.resize(100, back[:2]...); err != api.OK || !slices.Equal(back, []int{3, 1, 77, 88}) {
		t.Fatal(err, back)
	}
	back[0], back[1] = 0, 2
	w.same("the window that Resize was handed is another one")
	w.has(16)
}

func TestBlocksRise(t *testing.T) {
	w := lie(t, 2048, 1).settle(0, 1, 65536, 0)
	var want []api.Block
	for m := 4; m >= 1; m-- {
		want = append(want, api.Block{Addr: w.malloc(m*512 - 3).Addr, Size: m*512 - 3, Usable: m * 512})
	}
	for i := 7; i >= 0; i-- {
		for range 2 {
			want = append(want, api.Block{Addr: w.malloc(units[i] - 1).Addr, Size: units[i] - 1, Usable: units[i]})
		}
	}
	slices.SortFunc(want, func(a, b api.Block) int { return a.Addr - b.Addr })
	if got := w.x.Blocks(); !slices.Equal(got, want) {
		t.Fatal(got, want)
	}
}

// P18.2

func TestSizesThatMayNotBe(t *testing.T) {
	w := lay(t, 9000)
	h := w.has(40)
	for _, n := range append([]int{0, -2, 8193, 8194, 9000, 9001, 16384}, far...) {
		w.bad(w.malloc(n), api.ErrSize)
		w.bad(w.realloc(h, n), api.ErrSize)
		w.bad(w.calloc(n, 1), api.ErrSize)
		w.bad(w.calloc(1, n), api.ErrSize)
	}
	// Where no byte could be had, the size is told first all the same.
	w = lie(t, 1, 1).settle(0, 1<<44, 1)
	w.bad(w.malloc(0), api.ErrSize)
	w.bad(w.malloc(8193), api.ErrSize)
	w.bad(w.calloc(0, 0), api.ErrSize)
	w.bad(w.malloc(1), api.ErrQuota)
	w.bad(w.malloc(8192), api.ErrQuota)
}

func TestLeastAndGreatestOfEachKind(t *testing.T) {
	for _, n := range sizes() {
		w := lay(t, max(unitFor(n)*2, 100))
		r := w.malloc(n)
		if r.Err != api.OK || r.Charged != unitFor(n) || r.N != 0 || r.Data != "" {
			t.Fatalf("Malloc(%d): %+v", n, r)
		}
		if b := w.x.Blocks(); len(b) != 1 || b[0] != (api.Block{Addr: r.Addr, Size: n, Usable: unitFor(n)}) {
			t.Fatalf("Malloc(%d): %v", n, b)
		}
		if u := w.usable(r.Handle); u != (api.Answer{N: unitFor(n), Charged: unitFor(n)}) {
			t.Fatalf("Malloc(%d): Usable %+v", n, u)
		}
		w.reads(r.Handle, strings.Repeat("\x00", n))
		if other := w.calloc(n, 1); other.Err != api.OK || other.Charged != 2*unitFor(n) || other.Addr == r.Addr {
			t.Fatalf("Calloc(%d, 1): %+v", n, other)
		}
		if f := w.free(r.Handle); f != (api.Answer{Charged: unitFor(n)}) {
			t.Fatalf("Free of %d bytes: %+v", n, f)
		}
	}
}

func TestCalloc(t *testing.T) {
	w := lay(t, 8192+512)
	for _, one := range [][2]int{
		{0, 0}, {0, 1}, {1, 0}, {-1, -1}, {-4, -10}, {1, -1}, {-1, 1}, {-1, 0}, {8193, 1}, {1, 8193}, {2, 4097}, {4097, 2}, {91, 91}, {90, 92}, {3, 2731},
		{1 << 32, 1 << 32}, {1 << 40, 1 << 40}, {1 << 62, 4}, {4, 1 << 62}, {1<<63 - 1, 2}, {math.MaxInt, math.MaxInt}, {math.MinInt, math.MinInt},
		{math.MinInt, -1}, {-1, math.MinInt}, {math.MinInt, 2}, {math.MaxInt, -1}, {1<<61 + 1, 8}, {8, 1<<61 + 1}, {1<<32 + 1, 1<<32 - 1}, {1<<62 + 10, 4},
		{8192, 8192}, {8193, 0}, {0, math.MaxInt}, {math.MaxInt, 0}, {math.MaxInt, 1}, {1, math.MaxInt}, {1, math.MinInt},
	} {
		w.bad(w.calloc(one[0], one[1]), api.ErrSize)
	}
	for _, one := range [][2]int{{1, 1}, {3, 5}, {5, 3}, {1, 8192}, {8192, 1}, {2, 4096}, {4096, 2}, {64, 128}, {3, 2730}, {2730, 3}, {90, 91}, {7, 73}, {16, 16}} {
		r := w.calloc(one[0], one[1])
		n := one[0] * one[1]
		if r.Err != api.OK || r.Charged != unitFor(n) || w.x.Blocks()[0].Size != n {
			t.Fatalf("Calloc(%d, %d): %+v", one[0], one[1], r)
		}
		w.reads(r.Handle, strings.Repeat("\x00", n))
		w.write(r.Handle, 0, noise(n, n))
		w.free(r.Handle)
	}
	w.has(8192)
	w.bad(w.calloc(3, 200), api.ErrQuota)
	w.bad(w.calloc(100, 100), api.ErrSize)
}

func TestTheBlockThatFillsTheQuotaAndOneByteMore(t *testing.T) {
	for _, n := range sizes() {
		for _, first := range []int{0, 16, 40, 600} {
			quota := unitFor(first) + unitFor(n)
			w := lie(t, pagesFor(quota)+1, 1).settle(0, 1, quota, 0)
			if first > 0 {
				w.has(first)
			}
			if unitFor(n) < 8192 {
				w.bad(w.malloc(unitFor(n)+1), api.ErrQuota)
			}
			h := w.has(n)
			w.charged(quota)
			w.bad(w.malloc(1), api.ErrQuota)
			w.bad(w.malloc(8192), api.ErrQuota)
			w.free(h)
			w.has(unitFor(n))
			// With a quota one byte short there is none.
			w = lie(t, pagesFor(quota)+1, 1).settle(0, 1, quota-1, 0)
			if first > 0 {
				w.has(first)
			}
			w.bad(w.malloc(n), api.ErrQuota)
			w.bad(w.calloc(1, n), api.ErrQuota)
			w.charged(unitFor(first))
		}
	}
}

func TestLastSerial(t *testing.T) {
	w := lie(t, 64, 1).settle(5, 1<<44-3, 200, 0)
	one, two := w.has(20), w.has(20)
	less := w.good(w.restrict(one, 7))
	if less>>20 != lastSerial || w.x.Serial() != 1<<44 {
		t.Fatal(less, w.x.Serial())
	}
	// No serial is left: what needs none goes on.
	w.bad(w.malloc(20), api.ErrMany)
	w.bad(w.calloc(4, 5), api.ErrMany)
	w.bad(w.restrict(one, 1), api.ErrMany)
	w.bad(w.realloc(one, 40), api.ErrMany)
	w.bad(w.malloc(0), api.ErrSize)
	w.bad(w.malloc(137), api.ErrQuota)
	w.bad(w.realloc(one, 137), api.ErrQuota)
	w.bad(w.realloc(one, 0), api.ErrSize)
	w.bad(w.restrict(one, 8), api.ErrSize)
	if w.good(w.realloc(less, 32)) != less {
		t.Fatal("another handle")
	}
	w.good(w.write(one, 0, noise(32, 1)))
	w.reads(less, noise(32, 1))
	w.free(less)
	w.bad(w.usable(one), api.ErrBadHandle)
	w.bad(w.malloc(20), api.ErrMany)
	w.free(two)
	w.drop()
	w.bad(w.malloc(20), api.ErrMany)
	if w.x.Serial() != 1<<44 {
		t.Fatal(w.x.Serial())
	}
	// The last one can be Malloc's and Realloc's, too.
	w = lie(t, 64, 1).settle(0, lastSerial-1, 200, 0)
	h := w.good(w.realloc(w.has(20), 40))
	if h>>20 != lastSerial {
		t.Fatal(h)
	}
	w.bad(w.malloc(1), api.ErrMany)
	w.reads(h, strings.Repeat("\x00", 40))
}

// Each of 4096 objects, the most that any quota has, has a handle.
func TestTheMostObjects(t *testing.T) {
	a, m := raw(t, 4096, 1)
	x, err := New(a, m, 2, 1, 65536, 0)
	if err != api.OK {
		t.Fatal(err)
	}
	var all []uint64
	for i := range 4096 {
		r := x.Malloc(1 + i%16)
		if r.Err != api.OK || r.Handle != bitsOf(2, 7, i, i+1) || r.Charged != 16*(i+1) || r.Addr != 131072+16*i {
			t.Fatalf("object %d: %+v", i, r)
		}
		all = append(all, r.Handle)
	}
	if r := x.Malloc(1); r != (api.Answer{Err: api.ErrQuota, Charged: 65536}) {
		t.Fatalf("one more: %+v", r)
	}
	if r := x.Free(all[1000]); r.Err != api.OK {
		t.Fatal(r)
	}
	if r := x.Malloc(1); r != (api.Answer{Handle: bitsOf(2, 7, 1000, 4097), Addr: 131072 + 16000, Charged: 65536}) {
		t.Fatalf("one more: %+v", r)
	}
	x.Drop()
	if r := x.Malloc(1); r != (api.Answer{Handle: bitsOf(2, 7, 0, 4098), Addr: 131072, Charged: 16}) {
		t.Fatalf("behind Drop: %+v", r)
	}
}

// Should others take pages of the window, the heap has no room: then nothing is done, till they are free again.
func TestOthersTakePages(t *testing.T) {
	for _, n := range []int{16, 200, 512, 1500} {
		w := lie(t, 128, 2).settle(0, 1, 3200, 1)
		h := w.filled(10, 1)
		var pages []int
		for {
			page, err := w.m.Take(1)
			if w.n.Take(1); err != api.OK {
				break
			}
			pages = append(pages, page)
		}
		w.touched("a refusal", func() { w.x.Malloc(n * 2) })
		w.bad(w.malloc(n*2), api.ErrMany)
		w.bad(w.calloc(2, n), api.ErrMany)
		w.bad(w.realloc(h, n*2), api.ErrMany)
		w.bad(w.malloc(3300), api.ErrQuota)
		w.bad(w.malloc(0), api.ErrSize)
		w.has(5)
		for _, page := range pages {
			w.m.Give(page)
			w.n.Give(page)
		}
		h = w.good(w.realloc(h, n*2))
		w.reads(h, noise(10, 1)+strings.Repeat("\x00", n*2-10))
	}
}

// P18.3

// calls are all that take a handle, with arguments that may be and ones that may not.
func (w *twin) calls(h uint64) []api.Answer {
	w.Helper()
	return []api.Answer{
		w.usable(h), w.free(h), w.realloc(h, 20), w.realloc(h, 8000), w.realloc(h, 0), w.realloc(h, -1), w.realloc(h, 8193),
		w.read(h, 0, 1), w.read(h, 0, 0), w.read(h, -1, 1), w.read(h, 0, math.MaxInt), w.write(h, 0, "x"), w.write(h, 0, ""), w.write(h, -1, "x"),
		w.write(h, math.MaxInt, "x"), w.restrict(h, 1), w.restrict(h, 7), w.restrict(h, 0), w.restrict(h, 8), w.restrict(h, -1), w.restrict(h, math.MinInt),
	}
}

// dead wants a handle to be refused in each call.
func (w *twin) dead(handles ...uint64) {
	w.Helper()
	for _, h := range handles {
		for _, r := range w.calls(h) {
			w.bad(r, api.ErrBadHandle)
		}
	}
}

func TestHandlesThatAreNotGood(t *testing.T) {
	l := lie(t, 64, 2)
	w, other := l.settle(3, 5, 600, 0), l.settle(4, 5, 600, 1)
	w.dead(0, 1, 3, 1<<63, math.MaxUint64, bitsOf(3, 7, 0, 5))
	h := w.filled(20, 2)
	theirs := other.filled(20, 3)
	freed := w.has(20)
	w.free(freed)
	moved := w.has(16)
	gone := w.good(w.restrict(moved, 7))
	now := w.good(w.realloc(gone, 17))
	w.dead(theirs, freed, moved, gone, 0, math.MaxUint64)
	other.dead(h, now)
	// Bits that were never given out, one bit beside those that were.
	for i := range 64 {
		w.dead(h^1<<i, now^1<<i)
	}
	for _, s := range w.p.slots {
		w.dead(bitsOf(3, 7, 1, s.serial+1), bitsOf(3, 7, 4096, s.serial), bitsOf(3, 0, 0, s.serial), bitsOf(3, 7, 4160, s.serial))
	}
	// A slot that is had again has another serial.
	w.free(now)
	again := w.has(16)
	if again&(1<<20-1) != now&(1<<20-1) {
		t.Fatal("another slot", again, now)
	}
	w.dead(now, moved, freed)
	w.reads(h, noise(20, 2))
	other.reads(theirs, noise(20, 3))
}

func TestRights(t *testing.T) {
	for rights := 1; rights <= 7; rights++ {
		for i, one := range []struct {
			need int
			call func(w *twin, h uint64) api.Answer
		}{
			{4, func(w *twin, h uint64) api.Answer { return w.free(h) }},
			{4, func(w *twin, h uint64) api.Answer { return w.realloc(h, 10) }},
			{4, func(w *twin, h uint64) api.Answer { return w.realloc(h, 40) }},
			{1, func(w *twin, h uint64) api.Answer { return w.read(h, 2, 10) }},
			{2, func(w *twin, h uint64) api.Answer { return w.write(h, 2, "0123456789") }},
			{0, func(w *twin, h uint64) api.Answer { return w.usable(h) }},
			{rights, func(w *twin, h uint64) api.Answer { return w.restrict(h, rights) }},
			{8, func(w *twin, h uint64) api.Answer { return w.restrict(h, 7) }},
		} {
			if one.need == 8 && rights == 7 {
				continue
			}
			w := lay(t, 200)
			h := w.filled(20, i)
			less := w.good(w.restrict(h, rights))
			r := one.call(w, less)
			if one.need&^rights != 0 {
				w.bad(r, api.ErrBadHandle)
				w.reads(h, noise(20, i))
			} else if r.Err != api.OK {
				t.Fatalf("rights %d, call %d: %+v", rights, i, r)
			}
		}
	}
}

func TestWrongArgumentsWithoutTheRight(t *testing.T) {
	w := lay(t, 200)
	h := w.filled(20, 1)
	for rights := 1; rights <= 7; rights++ {
		less := w.good(w.restrict(h, rights))
		want := func(r api.Answer, need int, err api.Errno) {
			t.Helper()
			if need&^rights != 0 {
				err = api.ErrBadHandle
			}
			w.bad(r, err)
		}
		want(w.realloc(less, 0), 4, api.ErrSize)
		want(w.realloc(less, 8193), 4, api.ErrSize)
		want(w.realloc(less, 200), 4, api.ErrQuota)
		want(w.read(less, 0, 21), 1, api.ErrRange)
		want(w.read(less, -1, 1), 1, api.ErrRange)
		want(w.write(less, 20, "x"), 2, api.ErrRange)
		want(w.write(less, -1, ""), 2, api.ErrRange)
		want(w.restrict(less, 0), 0, api.ErrSize)
		want(w.restrict(less, 8), 0, api.ErrSize)
	}
	w.reads(h, noise(20, 1))
}

func TestFreeRevokesAllHandles(t *testing.T) {
	w := lay(t, 300)
	h, other := w.filled(20, 1), w.filled(20, 2)
	var all []uint64
	for rights := 1; rights <= 7; rights++ {
		all = append(all, w.good(w.restrict(h, rights)), w.good(w.restrict(other, rights)))
	}
	// A share of a share is one too.
	last := w.good(w.restrict(all[12], 6))
	w.charged(64)
	if r := w.free(last); r != (api.Answer{Charged: 32}) {
		t.Fatal(r)
	}
	for i, s := range all {
		if r := w.usable(s); (r.Err == api.OK) != (i%2 == 1) {
			t.Fatal(i, r)
		}
	}
	w.dead(h, last, all[0])
	w.reads(other, noise(20, 2))
	w.free(other)
	w.charged(0)
	if len(w.x.Blocks()) != 0 || w.x.Heap().Pages() != 0 {
		t.Fatal(w.x.Blocks())
	}
}

func TestRestrict(t *testing.T) {
	w := lay(t, 300)
	h, other := w.has(20), w.has(20)
	for i := range 64 {
		r := w.restrict([]uint64{h, other}[i%2], 1+i%7)
		if r != (api.Answer{Handle: bitsOf(3, 1+i%7, 4096+i, 3+i), Charged: 64}) {
			t.Fatalf("share %d: %+v", i, r)
		}
	}
	w.bad(w.restrict(h, 1), api.ErrMany)
	w.bad(w.restrict(h, 0), api.ErrSize)
	w.bad(w.restrict(0, 1), api.ErrBadHandle)
	// An object needs no slot for shares.
	w.has(20)
	w.free(other)
	if r := w.restrict(h, 2); r.Handle != bitsOf(3, 2, 4097, 68) {
		t.Fatal(r)
	}
	for _, rights := range append([]int{0, -2, 8, 9, 15, 16, 64}, far...) {
		w.bad(w.restrict(h, rights), api.ErrSize)
	}
}

func TestSpansOfObjects(t *testing.T) {
	for _, n := range []int{1, 16, 40, 48, 256, 300, 512, 700, 1024, 8192} {
		w := lay(t, max(unitFor(n), 100))
		h := w.filled(n, 4)
		for _, from := range append([]int{0, 1, n / 2, n - 1, n, n + 1, unitFor(n), unitFor(n) + 1}, far...) {
			for _, k := range append([]int{0, 1, 2, n - from - 1, n - from, n - from + 1, n, n + 1, unitFor(n)}, far...) {
				r := w.read(h, from, k)
				if from < 0 || k < 0 || from > n || k > n-from {
					w.bad(r, api.ErrRange)
				} else if r != (api.Answer{Data: noise(n, 4)[from : from+k], Charged: unitFor(n)}) {
					t.Fatalf("%d bytes, Read(%d, %d): %+v", n, from, k, r)
				}
			}
			for _, k := range []int{0, 1, n - from - 1, n - from, n - from + 1, n + 1, unitFor(n)} {
				if k < 0 || k > 20000 {
					continue
				}
				r := w.write(h, from, noise(n+k, 4)[max(min(from, n), 0):max(min(from, n), 0)+k])
				if from < 0 || from > n || k > n-from {
					w.bad(r, api.ErrRange)
				} else if r != (api.Answer{Charged: unitFor(n)}) {
					t.Fatalf("%d bytes, Write(%d, %d bytes): %+v", n, from, k, r)
				}
			}
		}
		w.reads(h, noise(n, 4))
	}
}

func TestAcrossThePagesOfARun(t *testing.T) {
	l := lie(t, 128, 2)
	w, other := l.settle(0, 1, 3000, 0), l.settle(1, 1, 1100, 1)
	// Its pages don't lie beside each other.
	theirs := other.filled(600, 9)
	h := w.filled(2000, 1)
	data := noise(2000, 1)
	for _, one := range [][2]int{{510, 4}, {511, 1}, {511, 2}, {512, 1}, {500, 600}, {0, 2000}, {1023, 514}, {1, 1999}, {1536, 464}} {
		if r := w.read(h, one[0], one[1]); r.Data != data[one[0]:one[0]+one[1]] {
			t.Fatalf("%v: %q", one, r.Data)
		}
		text := noise(one[1], one[0])
		w.good(w.write(h, one[0], text))
		data = data[:one[0]] + text + data[one[0]+one[1]:]
		w.reads(h, data)
	}
	other.reads(theirs, noise(600, 9))
}

// What each call touches, written out: pages of the colour 1 are 1, 3, 5 and so on.
func TestTouches(t *testing.T) {
	w := lie(t, 128, 2).settle(0, 1, 2600, 1)
	x := w.x
	var h, s uint64
	w.touched("New, and Malloc of what was never had", func() { h = x.Malloc(40).Handle })
	w.touched("Restrict, Usable, Blocks, Fits", func() {
		s = x.Restrict(h, 7).Handle
		x.Usable(h)
		x.Blocks()
		x.Fits(100, 50)
		x.Charged()
	})
	w.touched("Write", func() { x.Write(h, 3, "abc") }, wrote(515, 3))
	w.touched("Read", func() { x.Read(s, 2, 38) }, read(514, 38))
	w.touched("of no bytes", func() { x.Read(s, 40, 0); x.Write(s, 0, "") })
	w.touched("Realloc in place to more", func() { x.Realloc(s, 48) })
	w.touched("Realloc in place to as many", func() { x.Realloc(s, 48) })
	w.touched("Realloc in place to fewer", func() { x.Realloc(s, 7) }, wrote(519, 41))
	w.touched("Realloc in place to more again", func() { x.Realloc(s, 30) })
	w.touched("what is refused", func() {
		x.Malloc(2600)
		x.Malloc(0)
		x.Realloc(h, 2600)
		x.Realloc(h, -1)
		x.Read(h, 0, 31)
		x.Write(h, 30, "x")
		x.Free(h + 1)
		x.Restrict(h, 8)
		x.Resize(47, 1)
		x.Resize(100000, 1)
		x.Resize(2600)
	})
	// The block of 48 bytes lies in the page 1; the one of 64 in the page 3.
	w.touched("Realloc that moves", func() { h = x.Realloc(h, 60).Handle }, read(512, 30), wrote(3*512, 30), wrote(512, 48), wrote(512, 8), wrote(512, 512))
	// The run has the pages 1 and 5.
	w.touched("Realloc to a run", func() { h = x.Realloc(h, 1000).Handle }, read(3*512, 60), wrote(512, 60), wrote(3*512, 64), wrote(3*512, 8), wrote(3*512, 512))
	w.touched("Write across pages", func() { x.Write(h, 510, "abcde") }, wrote(1022, 2), wrote(5*512, 3))
	w.touched("Read across pages", func() { x.Read(h, 511, 2) }, read(1023, 1), read(5*512, 1))
	w.touched("Realloc of a run to fewer", func() { x.Realloc(h, 511) }, wrote(1023, 1), wrote(5*512, 488))
	w.touched("Realloc of a run in place", func() { x.Realloc(h, 1024) })
	w.touched("Realloc of a run to a greater one", func() { h = x.Realloc(h, 1025).Handle },
		read(512, 512), read(5*512, 512), wrote(3*512, 512), wrote(7*512, 512), wrote(512, 512), wrote(5*512, 512))
	w.touched("Resize to another colour", func() { x.Resize(1536, 0) },
		read(3*512, 512), wrote(0, 512), wrote(3*512, 512), read(7*512, 512), wrote(1024, 512), wrote(7*512, 512), read(9*512, 512), wrote(2048, 512), wrote(9*512, 512))
	w.touched("Resize of the quota", func() { x.Resize(2000, 0) })
	w.touched("Free", func() { x.Free(h) }, wrote(0, 512), wrote(1024, 512), wrote(2048, 512))
	x.Malloc(1)
	x.Malloc(512)
	w.touched("Drop", func() { x.Drop() }, wrote(0, 512), wrote(1024, 512))
	w.touched("Drop of nothing", func() { x.Drop() })
}

// P18.6: a nil *Tenant

func TestNilTenant(t *testing.T) {
	var x *Tenant
	none := api.Answer{Err: api.ErrNil}
	for _, n := range append([]int{0, 1, 16, 8192, 8193, 65536}, far...) {
		for what, r := range map[string]api.Answer{
			"Malloc": x.Malloc(n), "Calloc": x.Calloc(n, 1), "Calloc 1": x.Calloc(1, n), "Free": x.Free(uint64(n)), "Realloc": x.Realloc(1048688, n),
			"Usable": x.Usable(uint64(n)), "Read": x.Read(1048688, n, 1), "Read n": x.Read(1048688, 0, n), "Write": x.Write(1048688, n, "x"), "Restrict": x.Restrict(1048688, n),
		} {
			if r != none {
				t.Fatalf("%s of %d: %+v", what, n, r)
			}
		}
		if x.Fits(n, n) != api.ErrNil || x.Fits(100, n) != api.ErrNil || x.Resize(n) != api.ErrNil || x.Resize(100, n, 0) != api.ErrNil {
			t.Fatal(n, x.Fits(n, n), x.Resize(n))
		}
	}
	x.Drop()
	if len(x.Blocks()) != 0 || x.Heap() != nil || x.Charged() != 0 || x.Quota() != 0 || x.Serial() != 0 {
		t.Fatal(x.Blocks(), x.Heap(), x.Charged(), x.Quota(), x.Serial())
	}
}

// What the document says nothing of: nothing panics, and nothing can be had.

// anything does each call, whatever it answers.
func anything(x *Tenant, handles ...uint64) {
	for _, h := range append(handles, 0, 1048688) {
		x.Usable(h)
		x.Read(h, 0, 10)
		x.Write(h, 0, "abc")
		x.Restrict(h, 1)
		x.Realloc(h, 3)
		x.Realloc(h, 60)
		x.Free(h)
	}
	x.Fits(100, 5)
	x.Blocks()
	x.Calloc(3, 4)
	x.Resize(100, 0)
}

func TestNobodyMadeIt(t *testing.T) {
	x := &Tenant{}
	for range 2 {
		anything(x)
		for _, n := range []int{1, 256, 257, 8192} {
			if r := x.Malloc(n); r.Err == api.OK || r.Handle != 0 {
				t.Fatal(n, r)
			}
		}
		if x.Heap() != nil || len(x.Blocks()) != 0 || x.Charged() != 0 || x.Quota() != 0 {
			t.Fatal("something is had")
		}
		x.Drop()
	}
	a, _ := raw(t, 8, 1)
	if x, err := New(a, &colour.Map{}, 0, 1, 16, 0); x != nil || err != api.ErrFit {
		t.Fatal(x, err)
	}
}

// Its heap is handed out: whoever gives its blocks back there has done so behind its back.
func TestHeapsThatOthersUse(t *testing.T) {
	for i, spoil := range []func(h *heap.Heap){
		func(h *heap.Heap) { h.Drop() },
		func(h *heap.Heap) { h.Free(h.Blocks()[0]) },
		func(h *heap.Heap) { h.Malloc(40); h.Malloc(600) },
		func(h *heap.Heap) { h.Drop(); h.Malloc(40); h.Malloc(900) },
	} {
		t.Run(fmt.Sprint(i), func(t *testing.T) {
			a, m := raw(t, 64, 1)
			x, err := New(a, m, 0, 1, 2000, 0)
			if err != api.OK {
				t.Fatal(err)
			}
			var all []uint64
			for _, n := range []int{40, 40, 600, 16} {
				all = append(all, x.Malloc(n).Handle)
			}
			spoil(x.Heap())
			anything(x, all...)
			for range 40 {
				all = append(all, x.Malloc(30).Handle)
			}
			anything(x, all...)
			x.Drop()
			if x.Charged() != 0 || len(x.Blocks()) != 0 || m.Free(0) != 64 {
				t.Fatal(x.Charged(), x.Blocks(), m.Free(0))
			}
			if r := x.Malloc(40); r.Err != api.OK || r.Addr != 393216 || r.Charged != 48 {
				t.Fatal(r)
			}
		})
	}
}

// What is refused for its bytes, since the heap has them no more, leaves no block behind.
func TestReallocOfBytesThatAreGone(t *testing.T) {
	a, m := raw(t, 64, 1)
	x, _ := New(a, m, 0, 1, 2000, 0)
	h := x.Malloc(40).Handle
	x.Heap().Drop()
	if r := x.Realloc(h, 60); r.Err == api.OK || r.Handle != 0 || r.Addr != 0 || r.Charged != 48 {
		t.Fatal(r)
	}
	if r := x.Realloc(h, 3); r.Err == api.OK || r.Handle != 0 || r.Addr != 0 || r.Charged != 48 {
		t.Fatal(r)
	}
	if b := x.Blocks(); len(b) != 1 || b[0].Size != 40 || x.Heap().Pages() != 0 || m.Free(0) != 64 {
		t.Fatal(b, x.Heap().Pages())
	}
	if r := x.Read(h, 0, 1); r.Err == api.OK || r.Data != "" {
		t.Fatal(r)
	}
}
