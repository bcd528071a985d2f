package tenant

import (
	"fmt"
	"math/rand"
	"slices"
	"testing"

	"garth/api"
)

// P18.5

func TestFitsOfQuotas(t *testing.T) {
	w := lay(t, 200)
	for _, quota := range append([]int{0, -2, 65537, 65538, 1 << 20}, far...) {
		for _, pages := range []int{-1, 0, 5, 1 << 40} {
			if err := w.fits(quota, pages); err != api.ErrSize {
				t.Fatal(quota, pages, err)
			}
		}
		if err := w.resize(quota, 0); err != api.ErrSize {
			t.Fatal(quota, err)
		}
		if err := w.resize(quota); err != api.ErrSize {
			t.Fatal(quota, err)
		}
	}
	for _, quota := range []int{1, 16, 65535, 65536} {
		if err := w.fits(quota, 1<<40); err != api.OK {
			t.Fatal(quota, err)
		}
	}
}

func TestFitsWithNothingCharged(t *testing.T) {
	for _, had := range []bool{false, true} {
		w := lay(t, 5000)
		if had {
			h := w.has(4000)
			w.free(h)
		}
		// The peak counts for nothing.
		for _, quota := range []int{1, 16, 100, 512, 4999, 5000, 5001, 30000, 65536} {
			n := pagesFor(quota)
			for _, pages := range append([]int{n - 1, n - 2, 0}, far...) {
				if pages < n && w.fits(quota, pages) != api.ErrFit && n > 0 {
					t.Fatal(quota, pages)
				}
			}
			for _, pages := range []int{n, n + 1, 1 << 20, 1<<63 - 1} {
				if err := w.fits(quota, pages); err != api.OK {
					t.Fatal(quota, pages, err)
				}
			}
		}
	}
}

func TestFitsWithWhatIsCharged(t *testing.T) {
	w := lay(t, 1000)
	w.has(40)
	w.has(300)
	w.charged(560)
	peak := pagesFor(1000)
	for _, one := range []struct {
		quota, pages int
		want         api.Errno
	}{
		{559, 1 << 20, api.ErrQuota}, {1, 0, api.ErrQuota}, {559, 0, api.ErrQuota},
		{560, peak, api.OK}, {560, peak - 1, api.ErrFit}, {561, peak, api.OK}, {560, pagesFor(560), api.ErrFit}, {999, peak, api.OK}, {999, peak - 1, api.ErrFit},
		{1000, peak, api.OK}, {1000, peak - 1, api.ErrFit}, {1200, pagesFor(1200), api.OK}, {1200, pagesFor(1200) - 1, api.ErrFit}, {1200, peak, api.ErrFit},
	} {
		if err := w.fits(one.quota, one.pages); err != one.want {
			t.Fatalf("%+v: %d", one, err)
		}
	}
}

func TestResizeOfTheQuota(t *testing.T) {
	w := lie(t, pagesFor(1000), 1).settle(3, 1, 1000, 0)
	h := w.filled(300, 1)
	ok := func(quota int, want api.Errno) {
		t.Helper()
		if err := w.resize(quota, 0); err != want {
			t.Fatal(quota, err)
		}
	}
	ok(511, api.ErrQuota)
	ok(512, api.OK)
	w.bad(w.malloc(1), api.ErrQuota)
	ok(527, api.OK)
	w.bad(w.malloc(1), api.ErrQuota)
	ok(528, api.OK)
	w.has(1)
	w.bad(w.malloc(1), api.ErrQuota)
	ok(527, api.ErrQuota)
	// The peak is 1000 still: all its pages are there, and one byte above it takes no more.
	ok(1000, api.OK)
	ok(4000, api.ErrFit)
	w.reads(h, noise(300, 1))
	w.has(256)
	w.has(200 - 8)
	w.has(16)
	w.charged(992)
	w.bad(w.malloc(1), api.ErrQuota)
}

// A lesser quota has the peak of the greater one, as long as something is charged.
func TestThePeakStaysWhileSomethingIsCharged(t *testing.T) {
	l := lie(t, 4*pagesFor(200), 4)
	all := []int{0, 1, 2, 3}
	w := l.settle(0, 1, 600, all...)
	h := w.has(16)
	if err := w.resize(16, all...); err != api.OK {
		t.Fatal(err)
	}
	// The window has the pages of 16 bytes, and of 200, but not those of 600.
	for _, window := range [][]int{{0}, {1}, {3, 3}, {}} {
		if err := w.resize(16, window...); err != api.ErrFit {
			t.Fatal(window, err)
		}
		if err := w.resize(200, window...); err != api.ErrFit {
			t.Fatal(window, err)
		}
	}
	if err := w.resize(15, 0); err != api.ErrQuota {
		t.Fatal(err)
	}
	w.free(h)
	if err := w.resize(200, 1); err != api.OK {
		t.Fatal(err)
	}
	// Now 200 is the peak.
	w.has(16)
	if err := w.resize(16, 2); err != api.OK {
		t.Fatal(err)
	}
	if err := w.resize(600, 2); err != api.ErrFit {
		t.Fatal(err)
	}
	// One byte takes no page: a window of none will do.
	w.drop()
	if err := w.resize(1); err != api.OK {
		t.Fatal(err)
	}
	w.bad(w.malloc(1), api.ErrQuota)
}

// The peak that Drop and Free leave counts for what comes behind, until a Resize with nothing charged.
func TestThePeakStaysThroughDrop(t *testing.T) {
	w := lay(t, 600)
	n := pagesFor(600)
	w.has(16)
	w.drop()
	if err := w.fits(16, 1); err != api.OK {
		t.Fatal(err)
	}
	w.has(16)
	if err := w.fits(16, n-1); err != api.ErrFit {
		t.Fatal(err)
	}
	if err := w.fits(16, n); err != api.OK {
		t.Fatal(err)
	}
}

// Fits changes nothing: neither the quota nor the peak.
func TestFitsChangesNothing(t *testing.T) {
	w := lay(t, 200)
	w.has(16)
	for range 2 {
		w.fits(65536, 1<<20)
		w.fits(16, 1<<20)
		w.fits(15, 1<<20)
	}
	if err := w.fits(200, pagesFor(200)); err != api.OK {
		t.Fatal(err)
	}
	w.bad(w.malloc(185), api.ErrQuota)
	w.has(184 - 56)
}

// A greater peak stays behind a Resize that was refused, as the old one was.
func TestResizeThatIsRefusedChangesNothing(t *testing.T) {
	l := lie(t, 2*pagesFor(5000), 2)
	w, other := l.settle(0, 1, 200, 0), l.settle(1, 1, 5000, 1)
	h := w.filled(100, 1)
	for i := range 9 {
		other.filled(512, i)
	}
	for l.m.Free(1) > 0 {
		l.m.Take(1)
		l.n.Take(1)
	}
	for _, quota := range []int{128, 200, 5000} {
		if err := w.resize(quota, 1); err != api.ErrNone {
			t.Fatal(quota, err)
		}
	}
	// Had one of them changed the peak, 200 bytes would take more.
	if err := w.fits(200, pagesFor(200)); err != api.OK {
		t.Fatal(err)
	}
	w.bad(w.malloc(73), api.ErrQuota)
	w.reads(h, noise(100, 1))
	if err := w.resize(5000, 0, 1); err != api.OK {
		t.Fatal(err)
	}
}

func TestResizeToNoColourInCommon(t *testing.T) {
	l := lie(t, 4*pagesFor(2100), 4)
	w := l.settle(0, 1, 2000, 0, 2)
	var all []uint64
	for i, n := range []int{20, 20, 700, 90, 250, 250, 250} {
		all = append(all, w.filled(n, i))
	}
	blocks := w.x.Blocks()
	w.bad(w.malloc(49), api.ErrQuota)
	for _, window := range [][]int{{1}, {3}, {0}, {2, 1}, {3, 3, 0, 9, -1}, {2}} {
		if err := w.resize(2100, window...); err != api.OK {
			t.Fatal(window, err)
		}
		for i, n := range []int{20, 20, 700, 90, 250, 250, 250} {
			w.reads(all[i], noise(n, i))
		}
		for _, v := range w.x.Heap().Table().All() {
			if page := w.x.Heap().Table().Find(v); !slices.Contains(window, page%4) {
				t.Fatalf("window %v: the page %d is held", window, page)
			}
		}
		if !slices.Equal(w.x.Blocks(), blocks) {
			t.Fatalf("window %v: %v", window, w.x.Blocks())
		}
	}
	// Small blocks are given back, and had again, where they lie now.
	w.free(all[0])
	w.free(all[5])
	w.reads(w.has(17), noughts(17))
	w.reads(w.has(250), noughts(250))
}

func TestResizeToTooFewFreePages(t *testing.T) {
	for spare := range 4 {
		l := lie(t, 2*pagesFor(600), 2)
		w := l.settle(0, 1, 600, 0)
		h := w.filled(512, 1)
		small := w.filled(20, 2)
		for l.m.Free(1) > spare {
			l.m.Take(1)
			l.n.Take(1)
		}
		err := w.resize(700, 1)
		if pagesFor(700) > pagesFor(600) && err != api.ErrFit {
			t.Fatal(err)
		}
		err = w.resize(560, 1)
		if want := map[bool]api.Errno{true: api.OK, false: api.ErrNone}[spare >= 2]; err != want {
			t.Fatalf("%d pages free: %d, wanted %d", spare, err, want)
		}
		if err == api.ErrNone && (w.x.Quota() != 600 || !slices.Equal(w.x.Heap().Window(), []int{0})) {
			t.Fatal(w.x.Quota(), w.x.Heap().Window())
		}
		w.reads(h, noise(512, 1))
		w.reads(small, noise(20, 2))
	}
}

func TestDrop(t *testing.T) {
	w := lie(t, 128, 2).settle(6, 9, 3000, 1)
	w.drop()
	w.drop()
	for round := range 3 {
		var all []uint64
		for i, n := range []int{40, 40, 1, 700, 90, 250} {
			h := w.filled(n, i)
			all = append(all, h, w.good(w.restrict(h, 7)))
		}
		if all[0] != bitsOf(6, 7, 0, 9+12*round) || all[1] != bitsOf(6, 7, 4096, 10+12*round) {
			t.Fatal(round, all)
		}
		serial := w.x.Serial()
		w.drop()
		w.dead(all...)
		w.charged(0)
		if w.x.Serial() != serial || w.x.Quota() != 3000 || w.x.Heap().Pages() != 0 || len(w.x.Blocks()) != 0 || w.m.Free(0, 1) != 128 {
			t.Fatal(w.x.Serial(), serial, w.x.Quota(), w.x.Heap().Pages(), w.x.Blocks())
		}
		if s, _ := w.a.Read(0, w.a.Size()); s != noughts(w.a.Size()) {
			t.Fatal("Drop left bytes")
		}
		w.a.Forget()
	}
	if r := w.malloc(40); r.Addr != 393216 || r.Handle != bitsOf(6, 7, 0, 45) {
		t.Fatal(r)
	}
	w.has(2500)
	w.bad(w.malloc(385), api.ErrQuota)
}

// P18.6

// miser has blocks, and gives back as many as can be without a page.
type miser struct {
	*testing.T
	x       *Tenant
	handles map[int]uint64
}

// fill has blocks for n bytes till the quota is full; till then nothing may be refused.
func (w *miser) fill(n int) {
	w.Helper()
	for {
		room := w.x.Charged()+unitFor(n) <= w.x.Quota()
		r := w.x.Malloc(n)
		if room && r.Err != api.OK || !room && r.Err != api.ErrQuota {
			w.Fatalf("quota %d, charged %d: Malloc(%d): %+v", w.x.Quota(), w.x.Charged(), n, r)
		}
		if !room {
			return
		}
		w.handles[r.Addr] = r.Handle
	}
}

// thin gives back all small blocks but the first one of each page, and all runs but one.
func (w *miser) thin() {
	w.Helper()
	seen := map[int]bool{}
	for _, b := range w.x.Blocks() {
		page := b.Addr / 512
		if b.Usable >= 512 {
			page = 0
		}
		if !seen[page] {
			seen[page] = true
			continue
		}
		if r := w.x.Free(w.handles[b.Addr]); r.Err != api.OK {
			w.Fatal(r)
		}
	}
}

// shift has each third block grow as far as the quota goes.
func (w *miser) shift() {
	w.Helper()
	for i, b := range w.x.Blocks() {
		if i%3 > 0 || b.Usable >= 4096 {
			continue
		}
		room := w.x.Charged()+unitFor(b.Usable+1) <= w.x.Quota()
		r := w.x.Realloc(w.handles[b.Addr], b.Usable+1)
		if room && r.Err != api.OK || !room && r.Err != api.ErrQuota {
			w.Fatalf("quota %d, charged %d: Realloc to %d: %+v", w.x.Quota(), w.x.Charged(), b.Usable+1, r)
		}
		if room {
			w.handles[r.Addr] = r.Handle
		}
	}
}

// The worst that somebody can do: of each page one block is left, kind by kind, with a window of just as many pages as the quota takes.
func TestNoRefusalForLackOfPages(t *testing.T) {
	for _, quota := range []int{16, 100, 512, 560, 1000, 1024, 2048, 5000, 20000, 65536} {
		a, m := raw(t, pagesFor(quota), 1)
		x, err := New(a, m, 0, 1, quota, 0)
		if err != api.OK {
			t.Fatal(quota, err)
		}
		w := &miser{t, x, map[int]uint64{}}
		kinds := append(units[:], 512, 1024, 1536, 4096, 8192)
		for _, n := range kinds {
			w.fill(n)
			w.thin()
			w.shift()
		}
		for _, n := range slices.Backward(kinds) {
			w.fill(n)
			w.thin()
			w.shift()
		}
		// A lesser quota has the pages of the greater one still.
		for x.Charged() > 0 {
			if err := x.Resize(x.Charged(), 0); err != api.OK {
				t.Fatal(quota, x.Charged(), err)
			}
			w.thin()
			w.fill(40)
			w.fill(16)
			w.thin()
			if r := x.Free(w.handles[x.Blocks()[0].Addr]); r.Err != api.OK {
				t.Fatal(r)
			}
		}
	}
}

// someSize is a size of any kind; small ones come more often.
func someSize(r *rand.Rand) int {
	switch r.Intn(8) {
	case 0:
		return 1 + r.Intn(8192)
	case 1, 2:
		return 1 + r.Intn(1500)
	}
	return 1 + r.Intn(256)
}

var walkWindows = [][]int{{0}, {1}, {2}, {3}, {0, 1}, {2, 3}, {3, 1, 0}, {0, 1, 2, 3}, {1, 1, 7}, {}, {2, -1, 2}}

// step does one of the calls, which the harness holds against the plain tenant.
func (w *twin) step(r *rand.Rand, windows [][]int, quotas []int) api.Answer {
	w.Helper()
	h := uint64(r.Intn(3)) * 1048688
	if n := len(w.given); n > 0 && r.Intn(20) > 0 {
		h = w.given[n-1-r.Intn(min(n, 30))]
	}
	size := 20
	if at := w.p.find(h, 0); at >= 0 {
		size = len(w.p.objects[w.p.slots[at].addr].data)
	}
	from := r.Intn(size+2) - r.Intn(2)
	switch k := r.Intn(24); {
	case k < 7:
		return w.malloc(someSize(r))
	case k < 8:
		return w.calloc(r.Intn(40), r.Intn(40))
	case k < 11:
		return w.free(h)
	case k < 14:
		return w.realloc(h, someSize(r))
	case k < 18:
		return w.write(h, from, noise(r.Intn(size+2), r.Intn(99)))
	case k < 20:
		return w.read(h, from, r.Intn(size+2))
	case k < 22:
		return w.restrict(h, r.Intn(9))
	case k < 23:
		w.resize(quotas[r.Intn(len(quotas))], windows[r.Intn(len(windows))]...)
	case r.Intn(12) == 0:
		w.drop()
	}
	return api.Answer{}
}

// never wants no error that P18.6 rules out, as long as nobody else takes pages.
func (w *twin) never(r api.Answer) {
	w.Helper()
	if shares := len(w.p.slots) - len(w.p.objects); r.Err == api.ErrMany && shares < 64 {
		w.Fatalf("%+v, with %d shares", r, shares)
	}
}

func TestWalksOfOneTenant(t *testing.T) {
	for seed := range 24 {
		t.Run(fmt.Sprint(seed), func(t *testing.T) {
			quotas := []int{[]int{16, 100, 512, 1000}[seed%4], []int{300, 600, 2000}[seed%3], 4000, 65536, 0}
			most := slices.Max(quotas[:2])
			w := lie(t, 4*pagesFor(most), 4).settle(seed%8, 1+seed*1000, quotas[0], seed%4)
			r := rand.New(rand.NewSource(int64(seed)))
			for range 400 {
				w.never(w.step(r, walkWindows, quotas))
			}
		})
	}
}

// Tenants of windows without a colour in common never meet: each is answered as if it were alone.
func TestTwoTenantsThatNeverMeet(t *testing.T) {
	for seed := range 8 {
		l := lie(t, 4*pagesFor(1500), 4)
		one, two := l.settle(0, 1, 1500, 0, 2), l.settle(1, 7, 700, 1)
		alone := lie(t, 4*pagesFor(1500), 4).settle(1, 7, 700, 1)
		r := rand.New(rand.NewSource(int64(seed)))
		for i := range 250 {
			one.never(one.step(r, [][]int{{0, 2}, {0}, {2}}, []int{1500, 300, 800}))
			mine := rand.New(rand.NewSource(int64(1000*seed + i)))
			again := rand.New(rand.NewSource(int64(1000*seed + i)))
			got := two.step(mine, [][]int{{1}, {3}, {1, 3}}, []int{700, 200, 1500})
			if want := alone.step(again, [][]int{{1}, {3}, {1, 3}}, []int{700, 200, 1500}); got != want {
				t.Fatalf("seed %d, step %d: %+v, alone %+v", seed, i, got, want)
			}
			two.never(got)
			if !slices.Equal(two.x.Blocks(), alone.x.Blocks()) || two.x.Serial() != alone.x.Serial() || !slices.Equal(two.given, alone.given) {
				t.Fatalf("seed %d, step %d: %v, alone %v", seed, i, two.x.Blocks(), alone.x.Blocks())
			}
		}
		one.drop()
		two.same("Drop of the other one")
	}
}

// What is touched lies in pages that the tenant holds, ahead of the call or behind it.
func TestWhatIsTouchedIsHeld(t *testing.T) {
	for seed := range 6 {
		l := lie(t, 4*pagesFor(1500), 4)
		all := []*twin{l.settle(0, 1, 1500, 0), l.settle(1, 1, 1500, 1), l.settle(2, 1, 900, 2, 3)}
		r := rand.New(rand.NewSource(int64(seed)))
		for range 500 {
			w := all[r.Intn(3)]
			x, before := w.x, w.owns()
			l.a.Forget()
			h := uint64(0)
			if n := len(w.given); n > 0 {
				h = w.given[n-1-r.Intn(min(n, 20))]
			}
			switch k := r.Intn(20); {
			case k < 8:
				w.given = append(w.given, x.Malloc(someSize(r)).Handle)
			case k < 11:
				x.Free(h)
			case k < 14:
				w.given = append(w.given, x.Realloc(h, someSize(r)).Handle)
			case k < 17:
				x.Write(h, r.Intn(20), noise(r.Intn(600), 1))
			case k < 19:
				x.Read(h, r.Intn(20), r.Intn(600))
			case r.Intn(6) == 0:
				x.Drop()
			}
			after := w.owns()
			for _, span := range l.a.Touched() {
				first, last := span.At/512, (span.At+span.N-1)/512
				if first != last || !before[first] && !after[first] {
					t.Fatalf("touched %v: held %v, then %v", span, before, after)
				}
			}
		}
	}
}

// owns are the pages that its heap holds.
func (w *twin) owns() map[int]bool {
	out := map[int]bool{}
	for _, v := range w.x.Heap().Table().All() {
		out[w.x.Heap().Table().Find(v)] = true
	}
	return out
}
