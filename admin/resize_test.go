package admin

import (
	"fmt"
	"math/rand"
	"slices"
	"testing"

	"garth/api"
)

// P20.3

func TestResizeOfColoursAndQuotas(t *testing.T) {
	colours, quotas := manySizes()
	quotas = append(quotas, 527, 528, 529, 799, 800, 801)
	// What it has in objects, how many of the four colours are its, and another one's.
	for _, had := range []int{0, 16, 528} {
		for _, of := range [][2]int{{2, 0}, {2, 1}, {2, 2}, {1, 3}, {4, 0}} {
			fresh := func() *town {
				w := found(t, 80, 4)
				if of[1] > 0 {
					w.ok(w.create(1, of[1], 1))
				}
				w.ok(w.create(0, of[0], 800))
				for _, n := range map[int][]int{0: {}, 16: {16}, 528: {16, 512}}[had] {
					w.filled(0, n, 1)
				}
				return w
			}
			w := fresh()
			for _, k := range colours {
				for _, quota := range quotas {
					if w.resize(0, k, quota) == api.OK {
						w = fresh()
					}
				}
			}
		}
	}
}

func TestResizeInOrderOfErrors(t *testing.T) {
	// 800 bytes take a page more than a colour has.
	if pagesFor(800) != 17 || pagesFor(528) > 16 {
		t.Fatal(pagesFor(800), pagesFor(528))
	}
	for _, one := range []struct {
		id, colours, quota int
		want               api.Errno
	}{
		{8, 0, 0, api.ErrArg}, {-1, 2, 527, api.ErrArg}, {-1, 1, 528, api.ErrArg}, {8, 4, 800, api.ErrArg}, {8, 2, 800, api.ErrArg},
		{2, 0, 800, api.ErrNoTenant}, {2, 2, 0, api.ErrNoTenant}, {2, 5, 65537, api.ErrNoTenant}, {2, 1, 65536, api.ErrNoTenant}, {2, 4, 16, api.ErrNoTenant}, {2, 1, 16, api.ErrNoTenant},
		{0, 0, 527, api.ErrSize}, {0, 0, 800, api.ErrSize}, {0, 5, 527, api.ErrSize}, {0, 5, 800, api.ErrSize}, {0, 1, 0, api.ErrSize}, {0, 4, 0, api.ErrSize}, {0, 4, 65537, api.ErrSize}, {0, 0, 65536, api.ErrSize},
		{0, 2, 527, api.ErrQuota}, {0, 1, 527, api.ErrQuota}, {0, 4, 527, api.ErrQuota}, {0, 1, 1, api.ErrQuota}, {0, 4, 1, api.ErrQuota},
		{0, 1, 528, api.ErrFit}, {0, 1, 800, api.ErrFit}, {0, 2, 65536, api.ErrFit}, {0, 4, 65536, api.ErrFit}, {0, 4, 5000, api.ErrFit},
		{0, 4, 528, api.ErrColours}, {0, 4, 800, api.ErrColours}, {0, 4, 1500, api.ErrColours},
		{0, 2, 528, api.OK}, {0, 3, 528, api.OK}, {0, 3, 1500, api.OK},
	} {
		w := found(t, 64, 4)
		w.ok(w.create(0, 2, 800))
		w.ok(w.create(1, 1, 100))
		w.filled(0, 512, 1)
		w.filled(0, 16, 2)
		if err := w.resize(one.id, one.colours, one.quota); err != one.want {
			t.Fatalf("%+v: %d", one, err)
		}
	}
}

func TestResizeToFewerColours(t *testing.T) {
	for k := 1; k < 8; k++ {
		w := found(t, 8*pagesFor(6000), 8)
		w.ok(w.create(0, 1, 6000))
		w.ok(w.create(4, 7, 6000))
		other := w.crowd(0)
		mine := w.crowd(4)
		blocks := w.a.Tenant(4).Blocks()
		w.ok(w.destroy(0))
		// All eight, rising, so that what comes out of them is of colours that it had later, too.
		w.ok(w.resize(4, 8, 6000))
		w.ok(w.resize(4, k, 6000))
		var lowest []int
		for c := range k {
			lowest = append(lowest, c)
		}
		if !slices.Equal(w.a.Window(4), lowest) || w.a.Free() != 8-k || !slices.Equal(w.a.Tenant(4).Blocks(), blocks) {
			t.Fatal(w.a.Window(4), w.a.Free(), w.a.Tenant(4).Blocks())
		}
		w.refuses(4, other)
		// What went is there for another one, to the last byte; and it goes on itself where it lies now.
		w.ok(w.create(0, 8-k, 6000))
		w.crowd(0)
		for i, h := range mine {
			if i%2 == 0 {
				w.is(w.free(4, h).Err, api.OK)
			}
		}
		for i := range 6 {
			w.filled(4, []int{16, 48, 250, 512}[i%4], i)
		}
	}
}

// Those that it keeps are its own lowest ones, not those of the arena; the others are nobody's.
func TestResizeKeepsItsLowest(t *testing.T) {
	w := found(t, 10*40, 10)
	for id := range 5 {
		w.ok(w.create(id, 2, 100))
	}
	w.ok(w.destroy(1))
	w.ok(w.destroy(3))
	w.ok(w.resize(4, 5, 2000))
	if got := w.a.Window(4); !slices.Equal(got, []int{2, 3, 6, 8, 9}) {
		t.Fatal(got)
	}
	var all []uint64
	for i := range 7 {
		all = append(all, w.filled(4, 250, i))
	}
	for k := 4; k > 1; k-- {
		w.ok(w.resize(4, k, 2000))
		if got := w.a.Window(4); !slices.Equal(got, []int{2, 3, 6, 8, 9}[:k]) || w.a.Free() != 6-k {
			t.Fatal(got, w.a.Free())
		}
	}
	for i, h := range all {
		w.reads(4, h, noise(250, i))
	}
	w.ok(w.create(1, 4, 100))
	if got := w.a.Window(1); !slices.Equal(got, []int{6, 7, 8, 9}) {
		t.Fatal(got)
	}
}

// As many colours: only the quota is another one, and no byte is touched.
func TestResizeToAsManyColours(t *testing.T) {
	w := found(t, 80, 4)
	w.ok(w.create(3, 2, 800))
	h := w.filled(3, 500, 1)
	for _, quota := range []int{512, 600, 1200, 800} {
		w.a.Arena().Forget()
		if err := w.a.Resize(3, 2, quota); err != api.OK || len(w.a.Arena().Touched()) != 0 {
			t.Fatal(quota, err, w.a.Arena().Touched())
		}
		if x := w.a.Tenant(3); x.Quota() != quota || !slices.Equal(w.a.Window(3), []int{0, 1}) || w.a.Free() != 2 || x.Read(h, 0, 500).Data != noise(500, 1) {
			t.Fatal(x.Quota(), w.a.Window(3), w.a.Free())
		}
	}
}

func TestResizeToMoreColours(t *testing.T) {
	w := found(t, 6*16, 6)
	w.ok(w.create(0, 1, 100))
	w.ok(w.create(1, 1, 100))
	w.ok(w.create(2, 2, 100))
	h := w.filled(1, 90, 1)
	page := heldBy(w.a.Tenant(1))
	w.ok(w.destroy(0))
	// Two colours at the end and one below its own are free.
	for _, k := range []int{5, 6} {
		w.is(w.resize(1, k, 100), api.ErrColours)
	}
	w.ok(w.resize(1, 2, 100))
	if got := w.a.Window(1); !slices.Equal(got, []int{0, 1}) {
		t.Fatal(got)
	}
	w.ok(w.resize(1, 4, 1500))
	if got := w.a.Window(1); !slices.Equal(got, []int{0, 1, 4, 5}) || w.a.Free() != 0 {
		t.Fatal(got, w.a.Free())
	}
	// Nothing moved on the way; what comes now lies in the lowest page of all four.
	if got := heldBy(w.a.Tenant(1)); !slices.Equal(got, page) {
		t.Fatal(got, page)
	}
	w.filled(1, 512, 2)
	if got := heldBy(w.a.Tenant(1)); !slices.Equal(got, []int{0, page[0]}) {
		t.Fatal(got)
	}
	w.reads(1, h, noise(90, 1))
	w.is(w.resize(2, 3, 100), api.ErrColours)
	w.is(w.create(0, 1, 16), api.ErrColours)
}

// What was granted below its own colours is what it keeps, when it has fewer again: its pages move there.
func TestResizeIntoLowerColours(t *testing.T) {
	w := found(t, 4*40, 4)
	w.ok(w.create(0, 2, 100))
	w.ok(w.create(1, 2, 2000))
	all := w.crowdOf(1, 16, 40, 200, 600, 512)
	blocks := w.a.Tenant(1).Blocks()
	w.ok(w.destroy(0))
	w.ok(w.resize(1, 4, 2000))
	w.ok(w.resize(1, 2, 2000))
	if got := w.a.Window(1); !slices.Equal(got, []int{0, 1}) || !slices.Equal(w.a.Tenant(1).Blocks(), blocks) {
		t.Fatal(got)
	}
	for i, page := range heldBy(w.a.Tenant(1)) {
		if page%4 > 1 {
			t.Fatal(i, page)
		}
	}
	for _, h := range all {
		w.is(w.free(1, h).Err, api.OK)
	}
}

// crowdOf has objects of these sizes, of noise.
func (w *town) crowdOf(id int, sizes ...int) []uint64 {
	w.Helper()
	var all []uint64
	for i, n := range sizes {
		all = append(all, w.filled(id, n, i))
	}
	return all
}

func TestResizeToTheQuotaThatIsCharged(t *testing.T) {
	w := found(t, 4*60, 4)
	w.ok(w.create(0, 2, 3000))
	all := w.crowd3000(0)
	charged := w.a.Tenant(0).Charged()
	for _, quota := range []int{charged - 1, 1, charged - 16} {
		w.is(w.resize(0, 2, quota), api.ErrQuota)
		w.is(w.resize(0, 1, quota), api.ErrQuota)
		w.is(w.resize(0, 3, quota), api.ErrQuota)
	}
	w.ok(w.resize(0, 3, charged))
	w.is(w.malloc(0, 1).Err, api.ErrQuota)
	w.is(w.free(0, all[0]).Err, api.OK)
	// One byte of 16.
	w.ok(w.resize(0, 2, charged-16))
	w.is(w.malloc(0, 1).Err, api.ErrQuota)
	w.ok(w.resize(0, 2, charged-1))
	w.is(w.malloc(0, 1).Err, api.ErrQuota)
	w.ok(w.resize(0, 2, charged))
	w.is(w.malloc(0, 1).Err, api.OK)
}

// crowd3000 has objects of each small kind and two runs, of 2368 bytes together; the first one is of 16.
func (w *town) crowd3000(id int) []uint64 {
	w.Helper()
	all := w.crowdOf(id, 9, 30, 48, 60, 96, 128, 150, 250, 512, 1000)
	if got := w.a.Tenant(id).Charged(); got != 2368 {
		w.Fatal(got)
	}
	return all
}

// As long as something is charged, the window has room for the greatest quota since: pages may be held that came under it.
func TestResizeWithAPeakThatDoesNotFit(t *testing.T) {
	// 16 bytes take one page, 600 take 15, 300 take 8; a colour has 10.
	if pagesFor(600) != 15 || pagesFor(300) != 8 {
		t.Fatal(pagesFor(600), pagesFor(300))
	}
	w := found(t, 40, 4)
	w.ok(w.create(0, 2, 600))
	h := w.filled(0, 16, 1)
	w.ok(w.resize(0, 2, 16))
	w.is(w.resize(0, 1, 16), api.ErrFit)
	w.is(w.resize(0, 1, 300), api.ErrFit)
	w.ok(w.resize(0, 3, 300))
	w.is(w.resize(0, 1, 16), api.ErrFit)
	w.ok(w.resize(0, 2, 16))
	w.is(w.resize(0, 1, 15), api.ErrQuota)
	w.free(0, h)
	w.ok(w.resize(0, 1, 300))
	h = w.filled(0, 16, 1)
	w.ok(w.resize(0, 1, 16))
	w.is(w.resize(0, 1, 600), api.ErrFit)
	w.ok(w.resize(0, 2, 600))
	w.is(w.resize(0, 1, 16), api.ErrFit)
	// Who is made again has no peak of old.
	w.ok(w.destroy(0))
	w.ok(w.create(0, 1, 16))
	w.filled(0, 16, 1)
	w.ok(w.resize(0, 1, 16))
}

// Rule 3: behind each error all is as it was, and another one may have what would have been granted.
func TestResizeThatIsRefusedDoesNothing(t *testing.T) {
	w := found(t, 64, 4)
	w.ok(w.create(0, 1, 100))
	w.ok(w.create(1, 2, 800))
	all := w.crowdOf(1, 16, 512, 100)
	w.ok(w.destroy(0))
	for _, one := range [][2]int{{0, 800}, {5, 800}, {3, 0}, {3, 65537}, {3, 655}, {1, 800}, {4, 65536}, {3, 3000}} {
		if w.resize(1, one[0], one[1]) == api.OK {
			t.Fatal(one)
		}
		if got := w.a.Window(1); !slices.Equal(got, []int{1, 2}) || w.a.Free() != 2 || w.a.Tenant(1).Quota() != 800 {
			t.Fatal(one, got, w.a.Free(), w.a.Tenant(1).Quota())
		}
	}
	w.ok(w.create(2, 2, 100))
	for k := 3; k < 5; k++ {
		w.is(w.resize(1, k, 800), api.ErrColours)
	}
	for i, n := range []int{16, 512, 100} {
		w.reads(1, all[i], noise(n, i))
	}
}

// Where somebody has blocks of the heap beside the quota there may be too few pages after all: then nothing is done, whether colours were wanting or are left over.
func TestResizeThatTheHeapRefusesDoesNothing(t *testing.T) {
	a, err := New(api.Config{Pages: 32, Colours: 4})
	if err != api.OK {
		t.Fatal(err)
	}
	for _, id := range []int{0, 1} {
		if err := a.Create(id, 1, 100); err != api.OK {
			t.Fatal(err)
		}
	}
	if a.Create(2, 2, 100) != api.OK || a.Destroy(0) != api.OK {
		t.Fatal(a.Free())
	}
	h := a.Tenant(2).Heap()
	if _, err := h.Malloc(14 * 512); err != api.OK {
		t.Fatal(err)
	}
	is := func(window ...int) {
		t.Helper()
		if got := a.Window(2); !slices.Equal(got, window) || a.Free() != 3-len(window) || a.Tenant(2).Quota() != 100 || h.Pages() != 14 {
			t.Fatal(got, a.Free(), a.Tenant(2).Quota(), h.Pages())
		}
	}
	is(2, 3)
	if err := a.Resize(2, 1, 90); err == api.OK {
		t.Fatal("14 pages in a colour of 8")
	}
	is(2, 3)
	// Now its pages lie in the colour 1, too, and other blocks in 0, 2 and 3.
	if h.Move(1, 2) != api.OK {
		t.Fatal("no move")
	}
	other := a.Tenant(1).Heap()
	if other.Move(0, 3) != api.OK {
		t.Fatal("no move")
	}
	if _, err := other.Malloc(14 * 512); err != api.OK {
		t.Fatal(err)
	}
	if err := a.Resize(2, 3, 90); err == api.OK {
		t.Fatal("7 pages where 3 are free")
	}
	is(2, 3)
}

// P20.6

// hoard has blocks for n bytes till the quota is full, and then gives back all but one of each page, and all runs but one.
func (w *town) hoard(id, n int) {
	w.Helper()
	x, g := w.a.Tenant(id), w.guests[id]
	for g.charged()+unitFor(n) <= g.quota {
		r, want := x.Malloc(n), g.x.Malloc(n)
		if r.Err != api.OK || r != want {
			w.Fatalf("Malloc(%d) of %d: %+v, %+v", n, id, r, want)
		}
		x.Write(r.Handle, 0, noise(n, int(r.Handle>>20)))
		g.x.Write(r.Handle, 0, noise(n, int(r.Handle>>20)))
		g.objects[r.Handle] = object{noise(n, int(r.Handle>>20)), unitFor(n)}
	}
	w.is(x.Malloc(n).Err, api.ErrQuota)
	first := map[int]bool{}
	for _, h := range w.byAddress(id) {
		page := x.Realloc(h, len(g.objects[h].data)).Addr / 512
		if g.objects[h].unit >= 512 {
			page = 0
		}
		if !first[page] {
			first[page] = true
			continue
		}
		if r, want := x.Free(h), g.x.Free(h); r.Err != api.OK || r != want {
			w.Fatal(r, want)
		}
		delete(g.objects, h)
	}
	w.same(fmt.Sprintf("blocks of %d for %d", n, id))
}

// byAddress are the handles of all objects, by their addresses.
func (w *town) byAddress(id int) []uint64 {
	var all []uint64
	for h := range w.guests[id].objects {
		all = append(all, h)
	}
	at := func(h uint64) int { return w.a.Tenant(id).Realloc(h, len(w.guests[id].objects[h].data)).Addr }
	slices.SortFunc(all, func(g, h uint64) int { return at(g) - at(h) })
	return all
}

// The worst that somebody can do: it holds as many pages as its quota lets it, in a window of just as many as that takes, and all of them move.
func TestResizeNeverLacksPages(t *testing.T) {
	for _, one := range []struct{ quota, each int }{{16, 1}, {100, 1}, {300, 1}, {600, 1}, {560, 3}, {900, 2}, {2000, 8}, {5000, 20}, {5000, 60}} {
		k := (pagesFor(one.quota) + one.each - 1) / one.each
		w := found(t, 2*k*one.each, 2*k)
		w.ok(w.create(0, k, one.quota))
		w.ok(w.create(1, k, one.quota))
		for _, n := range []int{16, 32, 48, 64, 96, 128, 192, 256, 512, 1024} {
			w.hoard(0, n)
			w.hoard(1, n)
		}
		for id, other := range []int{1, 0} {
			w.ok(w.destroy(other))
			w.ok(w.resize(id, 2*k, one.quota))
			w.hoard(id, 40)
			// To the lowest ones, at the least quota that may be.
			w.ok(w.resize(id, k, max(w.a.Tenant(id).Charged(), 1)))
			w.ok(w.create(other, k, one.quota))
			w.ok(w.resize(id, k, one.quota))
			for _, n := range []int{192, 256, 16, 600} {
				w.hoard(other, n)
				w.hoard(id, n)
			}
		}
	}
}

// walk is a town in which so many numbers come and go, with quotas about as great as the colours' pages allow.
type walk struct {
	*town
	r         *rand.Rand
	ids, most int
}

// quota is one of which most fit, and some can't be.
func (w *walk) quota() int {
	switch w.r.Intn(20) {
	case 0:
		return []int{0, -1, 65537, 65536}[w.r.Intn(4)]
	case 1, 2, 3:
		return 1 + w.r.Intn(2*w.most)
	}
	return 1 + w.most/4 + w.r.Intn(w.most*3/4)
}

// do does one of the calls, whatever comes of it.
func (w *walk) do() {
	w.Helper()
	r := w.r
	id := r.Intn(w.ids)
	if w.guests[id] == nil || r.Intn(60) == 0 {
		w.create(id, 1+r.Intn(3)-r.Intn(30)/29, w.quota())
		return
	}
	switch k := r.Intn(40); {
	case k < 1:
		w.destroy(id)
	case k < 6:
		w.resize(id, len(w.windowOf(id))+r.Intn(5)-2, w.quota())
	case k < 12:
		// Back to fewer, or one more, with the quota that it has, or what it is charged, about.
		g := w.guests[id]
		w.resize(id, max(len(w.windowOf(id))-1+r.Intn(3), 1), []int{g.quota, g.charged(), g.charged() - 1, g.charged() + r.Intn(100)}[r.Intn(4)])
	case k < 22:
		for range 3 {
			w.malloc(id, 1+r.Intn(min(w.most, []int{16, 60, 256, 2000}[r.Intn(4)])))
		}
	default:
		w.touch(id)
	}
}

// touch does something with an object, as a rule with one that it has.
func (w *walk) touch(id int) {
	w.Helper()
	r, h := w.r, uint64(0)
	if mine := w.byAddress(id); len(mine) > 0 && r.Intn(20) > 0 {
		h = mine[r.Intn(len(mine))]
	} else if len(w.given) > 0 {
		h = w.given[r.Intn(len(w.given))]
	}
	n := len(w.guests[id].objects[h].data)
	switch r.Intn(6) {
	case 0:
		w.free(id, h)
	case 1, 2:
		w.realloc(id, h, someSize(r))
	default:
		w.write(id, h, r.Intn(n+1), noise(r.Intn(n+1), r.Intn(99)))
	}
}

func TestWalks(t *testing.T) {
	for seed := range 30 {
		t.Run(fmt.Sprint(seed), func(t *testing.T) {
			colours := []int{3, 8, 13, 20, 32}[seed%5]
			most := []int{100, 600, 2500}[seed%3]
			each := pagesFor(most)/(1+seed%4) + 1
			w := &walk{found(t, colours*each, colours), rand.New(rand.NewSource(int64(seed))), 2 + seed%7, most}
			for range 500 {
				w.do()
				// To show all that were ever given to all each time would take too long.
				w.given = w.given[max(len(w.given)-60, 0):]
			}
		})
	}
}

// All short rows of calls, by two tenants that have all colours, some, or none.
func TestAllShortRowsOfCalls(t *testing.T) {
	calls := []func(w *town){
		func(w *town) { w.create(0, 1, 16) },
		func(w *town) { w.create(0, 2, 32) },
		func(w *town) { w.create(1, 1, 16) },
		func(w *town) { w.create(1, 2, 16) },
		func(w *town) { w.resize(0, 1, 16) },
		func(w *town) { w.resize(0, 2, 32) },
		func(w *town) { w.resize(1, 3, 16) },
		func(w *town) { w.resize(1, 1, 16) },
		func(w *town) { w.destroy(0) },
		func(w *town) { w.destroy(1) },
		func(w *town) { w.fill(0, 16) },
		func(w *town) { w.fill(1, 16) },
	}
	const long = 4
	row := make([]int, long)
	for {
		w := found(t, 3, 3)
		for _, k := range row {
			calls[k](w)
		}
		at := 0
		for ; at < long; at++ {
			row[at]++
			if row[at] < len(calls) {
				break
			}
			row[at] = 0
		}
		if at == long {
			return
		}
	}
}

// fill has an object of noise, if it is there and has the quota for it.
func (w *town) fill(id, n int) {
	w.Helper()
	if w.guests[id] == nil {
		return
	}
	if r := w.malloc(id, n); r.Err == api.OK {
		w.write(id, r.Handle, 0, noise(n, id))
	}
}

// What a tenant is answered, and where its objects are, is what it would be if nobody else were there.
func TestTenantsNeverMeet(t *testing.T) {
	for seed := range 8 {
		alone, w := found(t, 6*60, 6), found(t, 6*60, 6)
		noisy := rand.New(rand.NewSource(int64(seed)))
		w.ok(w.create(0, 1, 400))
		for _, one := range []*town{alone, w} {
			one.ok(one.create(5, 2, 1500))
		}
		for i := range 150 {
			for other := range 3 {
				w.bustle(noisy, other)
			}
			got := w.busy(rand.New(rand.NewSource(int64(1000*seed+i))), 5)
			want := alone.busy(rand.New(rand.NewSource(int64(1000*seed+i))), 5)
			if got != want || !slices.Equal(w.a.Tenant(5).Blocks(), alone.a.Tenant(5).Blocks()) || w.a.Serial(5) != alone.a.Serial(5) {
				t.Fatalf("seed %d, step %d: %+v, alone %+v", seed, i, got, want)
			}
		}
	}
}

// bustle is what others do: they come, go, grow and have objects.
func (w *town) bustle(r *rand.Rand, id int) {
	w.Helper()
	switch {
	case w.guests[id] == nil:
		w.create(id, 1+r.Intn(2), 400)
	case r.Intn(12) == 0:
		w.destroy(id)
	case r.Intn(5) == 0:
		w.resize(id, 1+r.Intn(4), 300+r.Intn(200))
	default:
		w.fill(id, 1+r.Intn(250))
	}
}

// busy is one step of a tenant's own, which hangs on nothing but what it has.
func (w *town) busy(r *rand.Rand, id int) api.Answer {
	w.Helper()
	mine := w.byAddress(id)
	if len(mine) == 0 || r.Intn(3) == 0 {
		return w.malloc(id, someSize(r))
	}
	h := mine[r.Intn(len(mine))]
	switch r.Intn(6) {
	case 0, 1:
		return w.free(id, h)
	case 2:
		return w.realloc(id, h, someSize(r))
	case 3:
		// Never more than it has already: whether others leave some free is all that it may be told of them.
		return api.Answer{Err: w.resize(id, 1+r.Intn(len(w.windowOf(id))), 1000+r.Intn(500))}
	}
	n := len(w.guests[id].objects[h].data)
	return w.write(id, h, r.Intn(n), noise(r.Intn(n), r.Intn(99)))
}
