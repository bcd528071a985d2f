package heap

import (
	"math"
	"slices"
	"strings"
	"testing"

	"garth/api"
	"garth/arena"
	"garth/colour"
	"garth/view"
)

// far are numbers that are no size, no address and no colour; the lower bits of some would be.
var far = []int{
	math.MinInt, math.MinInt + 1, math.MinInt + 131072, -1 << 32, -1<<32 + 131072, math.MinInt32, -131072, -512, -16, -1,
	25*131072 + 1, 26 * 131072, 1<<32 + 1, 1<<32 + 131072, 1<<53 + 1, 1<<62 + 131072, math.MaxInt32, math.MaxInt - 131072, math.MaxInt - 1, math.MaxInt,
}

// raw is a heap without a plain one beside it, for what is written out by hand.
func raw(t *testing.T, pages, colours int, window ...int) (*arena.Arena, *colour.Map, *Heap) {
	t.Helper()
	l := lie(t, pages*512, pages, colours)
	h, err := New(l.a, l.m, window...)
	if err != api.OK {
		t.Fatal(err)
	}
	return l.a, l.m, h
}

func wrote(at, n int) api.Span { return api.Span{At: at, N: n, Wrote: true} }

func read(at, n int) api.Span { return api.Span{At: at, N: n} }

// touched wants just these touches of what was done since the last time.
func touched(t *testing.T, a *arena.Arena, what string, want ...api.Span) {
	t.Helper()
	if got := a.Touched(); !slices.Equal(got, want) {
		t.Fatalf("%s touched %v, wanted %v", what, got, want)
	}
	a.Forget()
}

// least is the least number of bytes of a kind.
func least(kind int) int {
	if kind == 0 {
		return 1
	}
	return unitOf(kind-1) + 1
}

func reversed(list []int) []int {
	out := slices.Clone(list)
	slices.Reverse(out)
	return out
}

func TestExamples(t *testing.T) {
	w := lay(t, 16, 2, 0)
	w.mallocs(10, 131072, 131088)
	w.mallocs(600, 1310720)
	w.holds([2]int{256, 0}, [2]int{2560, 2}, [2]int{2561, 4})
	w.frees(131072, 131088)
	w.holds([2]int{2560, 2}, [2]int{2561, 4})
	if w.h.Pages() != 2 {
		t.Fatal(w.h.Pages())
	}
}

// P17.1

func TestNewWithoutArenaOrMap(t *testing.T) {
	l := lie(t, 512, 1, 1)
	for _, window := range [][]int{nil, {0}, {0, 0, 7}, far} {
		for i := range 3 {
			a, m := l.a, l.m
			if i != 0 {
				a = nil
			}
			if i != 1 {
				m = nil
			}
			if h, err := New(a, m, window...); h != nil || err != api.ErrNil {
				t.Fatalf("New without arena (%v) or map (%v): %v, %d", a == nil, m == nil, h, err)
			}
		}
	}
	l.same("New, refused")
}

func TestNewHoldsNothing(t *testing.T) {
	for _, window := range [][]int{nil, {}, {0}, {1}, {2, 0}, {0, 1, 2, 3}, {3, 3, 1, 3}, {4}, {-1, 1, 99}, far} {
		w := lay(t, 16, 4, window...)
		if w.h.Pages() != 0 || len(w.h.Blocks()) != 0 || w.h.Table() == nil || w.h.Table().Len() != 0 || !slices.Equal(w.h.Window(), window) {
			t.Fatal(window, w.h.Pages(), w.h.Blocks(), w.h.Window())
		}
		w.none(131072, 1179648, 1310720)
		if w.m.Free(0, 1, 2, 3) != 16 {
			t.Fatal("New took a page")
		}
	}
}

func TestWindowsAreNotKept(t *testing.T) {
	l := lie(t, 16*512, 16, 4)
	back := []int{2, 0, 77, 88}
	w := l.settle(back[:2]...)
	back[0], back[1] = 1, 3
	w.same("the window that was handed in is another one")
	w.mallocs(16, 131072)
	w.holds([2]int{256, 0})
	w.h.Window()[0] = 3
	w.same("what Window answered is another one")
	back = []int{3, 1, 77, 88}
	w.moves(back[:2]...)
	if !slices.Equal(back, []int{3, 1, 77, 88}) {
		t.Fatal(back)
	}
	back[0], back[1] = 0, 2
	w.same("the window that Move was handed is another one")
	w.mallocs(257, 1179648)
	w.holds([2]int{256, 1}, [2]int{2304, 3})
	back = append(w.h.Window(), 5)
	back[0] = 0
	w.same("what Window answered behind Move is another one")
}

func TestBlocksAreNewMemory(t *testing.T) {
	w := lay(t, 16, 1, 0)
	w.some(3, 16)
	w.some(2, 700)
	list := w.h.Blocks()
	for i := range list {
		list[i] = -5
	}
	w.same("what Blocks answered is another one")
	w.frees(131072, 131088, 131104)
	w.frees(1310720)
}

func TestBlocksRise(t *testing.T) {
	w := lay(t, 256, 1, 0)
	var want []int
	for kind := 23; kind >= 0; kind-- {
		want = append(want, addrOf(kind, 0, 0))
		w.mallocs(unitOf(kind), addrOf(kind, 0, 0))
	}
	if !slices.Equal(w.h.Blocks(), reversed(want)) {
		t.Fatal(w.h.Blocks())
	}
	// One more of each, in the order of the kinds: numbers, or slots, of each kind stand beside each other.
	for kind := range 24 {
		next := addrOf(kind, 0, 1)
		if kind >= 8 {
			next = addrOf(kind, 1, 0)
		}
		if w.m.Free(0) >= pagesOf(kind) || kind < 8 {
			want = append(want, next)
			w.mallocs(unitOf(kind), next)
		}
	}
	slices.Sort(want)
	if !slices.Equal(w.h.Blocks(), want) {
		t.Fatal(w.h.Blocks())
	}
}

func TestTableIsItsOwn(t *testing.T) {
	w := lay(t, 16, 2, 0)
	x := w.h.Table()
	w.mallocs(600, 1310720)
	w.mallocs(5, 131072)
	if w.h.Table() != x || x.Find(2561) != 2 || x.Holder(4) != 256 {
		t.Fatal("a table that was asked for ahead doesn't tell what is held")
	}
	w.fill(1310720, 1)
	if s, err := view.Read(w.a, x, 1310720+510, 4); err != api.OK || s != string([]byte{noise(1310720, 510, 1), noise(1310720, 511, 1), noise(1310720, 512, 1), noise(1310720, 513, 1)}) {
		t.Fatalf("%q, %d", s, err)
	}
	w.a.Forget()
	w.moves(1)
	w.drop()
	if w.h.Table() != x || x.Len() != 0 {
		t.Fatal("another table, or one with local pages")
	}
	w.mallocs(5, 131072)
	if x.Find(256) != 1 {
		t.Fatal(x.Find(256))
	}
}

// P17.2

func TestSizesThatMayNotBe(t *testing.T) {
	w := lay(t, 16, 2, 0, 1)
	for _, n := range append([]int{0, -1, -16, 8193, 8194, 9000, 1 << 16, 1 << 20}, far...) {
		w.refuses(n, api.ErrSize)
	}
	w.mallocs(1, 131072)
	// Where no page could be had, the size is told first all the same.
	empty := lay(t, 16, 2)
	empty.refuses(0, api.ErrSize)
	empty.refuses(8193, api.ErrSize)
	empty.refuses(1, api.ErrNone)
	empty.refuses(8192, api.ErrNone)
}

func TestLeastAndGreatestOfEachKind(t *testing.T) {
	for kind := range 24 {
		for _, n := range []int{least(kind), least(kind) + 1, unitOf(kind) - 1, unitOf(kind)} {
			if kind == 0 && n == 2 {
				n = 16
			}
			w := lay(t, 64, 2, 1)
			w.mallocs(n, addrOf(kind, 0, 0))
			if got, err := w.usable(addrOf(kind, 0, 0)); got != unitOf(kind) || err != api.OK {
				t.Fatalf("Malloc(%d): Usable %d, %d", n, got, err)
			}
			if w.h.Pages() != pagesOf(kind) {
				t.Fatalf("Malloc(%d): %d pages", n, w.h.Pages())
			}
			w.frees(addrOf(kind, 0, 0))
			if w.h.Pages() != 0 {
				t.Fatalf("Malloc(%d), Free: %d pages", n, w.h.Pages())
			}
		}
	}
}

// Every size by itself: which kind it is of, and that it has that many bytes.
func TestEverySize(t *testing.T) {
	_, _, h := raw(t, 16, 1, 0)
	for n := 1; n <= 8192; n++ {
		addr, err := h.Malloc(n)
		if addr != addrOf(kindOf(n), 0, 0) || err != api.OK {
			t.Fatalf("Malloc(%d): %d, %d", n, addr, err)
		}
		if got, err := h.Usable(addr); got < n || got != unitOf(kindOf(n)) || err != api.OK {
			t.Fatalf("Malloc(%d): Usable %d, %d", n, got, err)
		}
		if err := h.Free(addr); err != api.OK || h.Pages() != 0 {
			t.Fatalf("Malloc(%d): Free %d, pages %d", n, err, h.Pages())
		}
	}
}

func TestTheBlockThatFillsAPageAndTheNextOne(t *testing.T) {
	for kind := range 8 {
		w := lay(t, 8, 2, 1)
		for slot := range 3 {
			for k := range pers[kind] {
				if k == 0 && w.h.Pages() != slot {
					t.Fatalf("kind %d: %d pages ahead of the slot %d", kind, w.h.Pages(), slot)
				}
				w.mallocs(unitOf(kind), addrOf(kind, slot, k))
				if w.h.Pages() != slot+1 {
					t.Fatalf("kind %d: %d pages within the slot %d", kind, w.h.Pages(), slot)
				}
			}
		}
		v := addrOf(kind, 0, 0) / 512
		w.holds([2]int{v, 1}, [2]int{v + 1, 3}, [2]int{v + 2, 5})
	}
}

func TestKindsHaveTheirOwnLines(t *testing.T) {
	w := lay(t, 8, 1, 0)
	for k := range 2 {
		for kind := range 8 {
			w.mallocs(unitOf(kind), addrOf(kind, 0, k))
		}
	}
	if w.h.Pages() != 8 {
		t.Fatal(w.h.Pages())
	}
	// Kinds 6 and 7 are full now, and no page is left; the others have room.
	w.refuses(192, api.ErrNone)
	w.refuses(256, api.ErrNone)
	for kind := range 6 {
		w.mallocs(unitOf(kind), addrOf(kind, 0, 2))
	}
}

func TestRuns(t *testing.T) {
	for m := 1; m <= 16; m++ {
		kind := 7 + m
		w := lay(t, 64, 2, 0)
		w.mallocs(m*512, addrOf(kind, 0, 0))
		var want [][2]int
		for i := range m {
			want = append(want, [2]int{addrOf(kind, 0, 0)/512 + i, 2 * i})
		}
		w.holds(want...)
		w.mallocs(m*512-200, addrOf(kind, 1, 0))
		w.frees(addrOf(kind, 0, 0))
		w.mallocs(m*512, addrOf(kind, 0, 0))
		w.holds(append(want, w.heldBy(addrOf(kind, 1, 0), m, 2*m)...)...)
	}
}

// heldBy are pairs of m local pages from an address on, whose pages are each second one from p on.
func (w *twin) heldBy(addr, m, p int) [][2]int {
	var out [][2]int
	for i := range m {
		out = append(out, [2]int{addr/512 + i, p + 2*i})
	}
	return out
}

// A run's pages needn't lie beside each other: they are the lowest free ones, in rising order.
func TestRunInScatteredPages(t *testing.T) {
	w := lay(t, 16, 1, 0)
	singles := w.some(16, 512)
	w.frees(singles[9], singles[3], singles[12])
	w.refuses(4*512, api.ErrNone)
	w.mallocs(3*512, addrOf(10, 0, 0))
	v := addrOf(10, 0, 0) / 512
	for i, want := range []int{3, 9, 12} {
		if got := w.h.Table().Find(v + i); got != want {
			t.Fatalf("the local page %d is %d, wanted %d", v+i, got, want)
		}
	}
	w.refuses(1, api.ErrNone)
	w.refuses(512, api.ErrNone)
}

func TestJustAsManyFreePagesAndOneFewer(t *testing.T) {
	for m := 1; m <= 16; m++ {
		for spare := -1; spare <= 1; spare++ {
			if m+spare == 0 {
				continue
			}
			w := lay(t, 2*(m+spare), 2, 1)
			if spare < 0 {
				w.refuses(m*512, api.ErrNone)
				w.refuses(m*512-511, api.ErrNone)
				// Nothing of it was taken: a lesser one finds all pages.
				w.mallocs((m-1)*512, addrOf(7+m-1, 0, 0))
				continue
			}
			w.mallocs(m*512, addrOf(7+m, 0, 0))
			w.refuses((spare+1)*512, api.ErrNone)
			if spare == 1 {
				w.mallocs(20, addrOf(1, 0, 0))
			}
			w.refuses(300, api.ErrNone)
			w.refuses(1, api.ErrNone)
		}
	}
}

func TestSmallBlocksWithoutAPage(t *testing.T) {
	for kind := range 8 {
		w := lay(t, 2, 2, 0)
		w.mallocs(512, 1179648)
		w.refuses(unitOf(kind), api.ErrNone)
		w.frees(1179648)
		// The slot wasn't kept.
		for k := range pers[kind] {
			w.mallocs(unitOf(kind), addrOf(kind, 0, k))
		}
		w.refuses(unitOf(kind), api.ErrNone)
		w.frees(addrOf(kind, 0, 1))
		w.mallocs(unitOf(kind), addrOf(kind, 0, 1))
		w.refuses(unitOf(kind), api.ErrNone)
	}
}

func TestWindows(t *testing.T) {
	for _, one := range []struct {
		window []int
		pages  []int
	}{
		{nil, nil},
		{[]int{-1}, nil},
		{[]int{3}, nil},
		{far, nil},
		{[]int{0}, []int{0, 3, 6}},
		{[]int{2}, []int{2, 5, 8}},
		{[]int{2, 2, 2}, []int{2, 5, 8}},
		{[]int{2, 1}, []int{1, 2, 4, 5, 7, 8}},
		{[]int{1, -1, 2, 3, 1}, []int{1, 2, 4, 5, 7, 8}},
		{[]int{2, 0, 1}, []int{0, 1, 2, 3, 4, 5, 6, 7, 8}},
	} {
		w := lay(t, 9, 3, one.window...)
		for slot, page := range one.pages {
			w.mallocs(512, addrOf(8, slot, 0))
			if got := w.h.Table().Find(addrOf(8, slot, 0) / 512); got != page {
				t.Fatalf("window %v: page %d, wanted %d", one.window, got, page)
			}
		}
		w.refuses(512, api.ErrNone)
		w.refuses(1, api.ErrNone)
		w.drop()
		w.refuses((len(one.pages)+1)*512, api.ErrNone)
		if len(one.pages) > 0 {
			w.mallocs(len(one.pages)*512, addrOf(7+len(one.pages), 0, 0))
		}
	}
}

// The harness holds everything against everything at each step: here many steps go by, so the answers alone are looked at.
func TestAllSlotsAreTaken(t *testing.T) {
	for kind := range 24 {
		_, m, h := raw(t, 300, 1, 0)
		slots, per := 256/pagesOf(kind), 1
		if kind < 8 {
			per = pers[kind]
		}
		for i := range slots * per {
			if addr, err := h.Malloc(unitOf(kind)); addr != addrOf(kind, i/per, i%per) || err != api.OK {
				t.Fatalf("kind %d, block %d: %d, %d", kind, i, addr, err)
			}
		}
		free, blocks := m.Free(0), h.Blocks()
		if free < 300-256 || len(blocks) != slots*per {
			t.Fatalf("kind %d: %d pages free, %d blocks", kind, free, len(blocks))
		}
		for range 2 {
			if addr, err := h.Malloc(unitOf(kind)); addr != 0 || err != api.ErrNone {
				t.Fatalf("kind %d, all slots taken: %d, %d", kind, addr, err)
			}
		}
		if m.Free(0) != free || h.Pages() != 300-free || !slices.Equal(h.Blocks(), blocks) {
			t.Fatalf("kind %d: something was done", kind)
		}
		// Another kind has slots still.
		other := (kind + 1) % 24
		if addr, err := h.Malloc(unitOf(other)); addr != addrOf(other, 0, 0) || err != api.OK {
			t.Fatalf("kind %d: %d, %d", other, addr, err)
		}
		again := addrOf(kind, slots/2, per-1)
		if err := h.Free(again); err != api.OK {
			t.Fatal(kind, err)
		}
		if addr, err := h.Malloc(unitOf(kind)); addr != again || err != api.OK {
			t.Fatalf("kind %d, one free again: %d, %d", kind, addr, err)
		}
	}
}

func TestTheLowestFreeSlotIsTaken(t *testing.T) {
	for kind := range 24 {
		w := lay(t, 128, 1, 0)
		per := 1
		if kind < 8 {
			per = pers[kind]
		}
		var slots [5][]int
		for i := range slots {
			slots[i] = w.some(per, unitOf(kind))
		}
		w.frees(slots[3]...)
		w.frees(slots[1]...)
		w.mallocs(unitOf(kind), slots[1]...)
		w.mallocs(unitOf(kind), slots[3]...)
		w.mallocs(unitOf(kind), addrOf(kind, 5, 0))
	}
}

// P17.3

func TestFullPagesStandLastAgain(t *testing.T) {
	for kind := range 8 {
		w := lay(t, 8, 1, 0)
		n, per := unitOf(kind), pers[kind]
		for range 4 {
			w.some(per, n)
		}
		// All are full. 2 and 0 have room, in this order.
		w.frees(addrOf(kind, 2, 1), addrOf(kind, 0, 0))
		w.mallocs(n, addrOf(kind, 2, 1), addrOf(kind, 0, 0))
		w.mallocs(n, addrOf(kind, 4, 0))
		// 4 has room and stands first; 3 and 1 come behind it.
		w.frees(addrOf(kind, 3, per-1), addrOf(kind, 1, per-1))
		for k := 1; k < per; k++ {
			w.mallocs(n, addrOf(kind, 4, k))
		}
		w.mallocs(n, addrOf(kind, 3, per-1), addrOf(kind, 1, per-1), addrOf(kind, 5, 0))
	}
}

// A page that has room stays where it stands in its line, when one more of its blocks is free.
func TestPagesWithRoomKeepTheirPlace(t *testing.T) {
	for kind := range 6 {
		w := lay(t, 8, 1, 0)
		n, per := unitOf(kind), pers[kind]
		for range 3 {
			w.some(per, n)
		}
		w.frees(addrOf(kind, 1, 0), addrOf(kind, 2, 0), addrOf(kind, 1, 1), addrOf(kind, 2, 2))
		w.mallocs(n, addrOf(kind, 1, 1), addrOf(kind, 1, 0), addrOf(kind, 2, 2), addrOf(kind, 2, 0), addrOf(kind, 3, 0))
	}
}

func TestTheLastBlockOfAPage(t *testing.T) {
	for kind := range 8 {
		for count := 1; count <= pers[kind]; count++ {
			w := lay(t, 4, 2, 1)
			addrs := w.some(count, unitOf(kind))
			for _, addr := range addrs {
				w.fill(addr, 3)
			}
			for i, addr := range addrs {
				if w.h.Pages() != 1 {
					t.Fatalf("kind %d: %d pages, %d blocks had", kind, w.h.Pages(), count-i)
				}
				w.frees(addr)
			}
			if w.h.Pages() != 0 || w.m.Taken(1) {
				t.Fatalf("kind %d: the page wasn't let go of", kind)
			}
			w.none(addrs...)
			// It is a fresh one again: the order in which its blocks were given back is forgotten.
			for k := range pers[kind] {
				w.mallocs(unitOf(kind), addrOf(kind, 0, k))
			}
		}
	}
}

// The page that is let go of needn't be the first in its line, nor the last.
func TestPagesAreFreedInAnyOrder(t *testing.T) {
	for kind := range 8 {
		for _, order := range [][]int{{0, 1, 2}, {0, 2, 1}, {1, 0, 2}, {1, 2, 0}, {2, 0, 1}, {2, 1, 0}} {
			w := lay(t, 8, 1, 0)
			n, per := unitOf(kind), pers[kind]
			var slots [3][]int
			for i := range slots {
				slots[i] = w.some(per, n)
			}
			// All three have room, and stand in the order 0, 1, 2.
			for i := range slots {
				w.frees(slots[i][0])
			}
			for _, i := range order[:2] {
				w.frees(slots[i][1:]...)
			}
			if w.h.Pages() != 1 {
				t.Fatal(kind, order, w.h.Pages())
			}
			w.mallocs(n, slots[order[2]][0])
			w.mallocs(n, addrOf(kind, min(order[0], order[1]), 0))
			w.some(per-1, n)
			w.mallocs(n, addrOf(kind, max(order[0], order[1]), 0))
		}
	}
}

func TestAFullPageIsFreedWhole(t *testing.T) {
	for kind := range 8 {
		w := lay(t, 4, 1, 0)
		first, second := w.some(pers[kind], unitOf(kind)), w.some(pers[kind], unitOf(kind))
		w.frees(reversed(first)...)
		w.frees(second...)
		if w.h.Pages() != 0 || len(w.h.Blocks()) != 0 {
			t.Fatal(kind, w.h.Pages())
		}
		w.mallocs(unitOf(kind), first...)
	}
}

func TestAddressesOfNoBlock(t *testing.T) {
	w := lay(t, 64, 1, 0)
	wrong := append([]int{0, 1, 512, 131071, 131070, 130560, 25 * 131072, 25*131072 - 1, 25*131072 - 512}, far...)
	for kind := range 24 {
		wrong = append(wrong, addrOf(kind, 0, 0), addrOf(kind, 1, 0))
	}
	w.none(wrong...)
	// Of each kind up to runs of four pages a block is had; of the kind 3 none.
	for kind := range 12 {
		if kind != 3 {
			w.mallocs(unitOf(kind), addrOf(kind, 0, 0))
		}
	}
	w.none(append([]int{0, 1, 512, 131071, 25 * 131072, 25*131072 - 1}, far...)...)
	for kind := range 24 {
		addr := addrOf(kind, 0, 0)
		if kind == 3 || kind >= 12 {
			w.none(addr)
		}
		// Within the block, and just beside it.
		w.none(addr-1, addr+1, addr+2, addr+8, addr+15, addr+unitOf(kind)-1, addr+unitOf(kind), addr+unitOf(kind)+1)
		// The next slot, the last one, and what is left over behind it.
		slots := 256 / pagesOf(kind)
		w.none(addrOf(kind, 1, 0), addrOf(kind, slots-1, 0), addrOf(kind, slots, 0)-1, addrOf(kind, slots-1, 0)+unitOf(kind)/2)
	}
	// The second page of a run is no block's beginning.
	w.none(addrOf(9, 0, 0)+512, addrOf(11, 0, 0)+512, addrOf(11, 0, 0)+1024, addrOf(11, 0, 0)+1536)
	// What is left over behind the last block of a page: 512 is no multiple of 48, 96 and 192.
	w.none(addrOf(2, 0, 0)+480, addrOf(4, 0, 0)+480, addrOf(6, 0, 0)+384)
}

func TestEveryAddressOfAPage(t *testing.T) {
	for kind := range 9 {
		_, _, h := raw(t, 8, 1, 0)
		var had []int
		for range max(1, 13-2*kind) {
			addr, _ := h.Malloc(unitOf(kind))
			had = append(had, addr)
		}
		h.Free(had[0])
		had = had[1:]
		begin := addrOf(kind, 0, 0)
		for addr := begin - 600; addr < begin+1200; addr++ {
			wantN, want := 0, api.ErrNone
			if slices.Contains(had, addr) {
				wantN, want = unitOf(kind), api.OK
			}
			if n, err := h.Usable(addr); n != wantN || err != want {
				t.Fatalf("kind %d: Usable(%d): %d, %d", kind, addr-begin, n, err)
			}
			if err := h.Free(addr); want != api.OK && err != want {
				t.Fatalf("kind %d: Free(%d): %d", kind, addr-begin, err)
			} else if want == api.OK {
				if err != api.OK || h.Free(addr) != api.ErrNone {
					t.Fatalf("kind %d: Free(%d), twice: %d", kind, addr-begin, err)
				}
			}
		}
		if h.Pages() != 0 {
			t.Fatal(kind, h.Pages())
		}
	}
}

func TestFreeTwice(t *testing.T) {
	for kind := range 24 {
		w := lay(t, 64, 1, 0)
		addrs := w.some(2, unitOf(kind))
		w.frees(addrs[0])
		w.none(addrs[0])
		w.frees(addrs[1])
		w.none(addrs...)
		w.mallocs(unitOf(kind), addrs...)
	}
}

// Nothing of a run is left: its pages are 0, free, and had again by whoever asks next.
func TestRunsAreLetGoOf(t *testing.T) {
	for m := 1; m <= 16; m++ {
		w := lay(t, 2*m, 2, 1)
		w.mallocs(m*512, addrOf(7+m, 0, 0))
		w.fill(addrOf(7+m, 0, 0), m)
		w.refuses(1, api.ErrNone)
		w.frees(addrOf(7+m, 0, 0))
		if w.h.Pages() != 0 || w.m.Free(1) != m {
			t.Fatal(m, w.h.Pages(), w.m.Free(1))
		}
		if s, _ := w.a.Read(0, w.a.Size()); strings.Trim(s, "\x00") != "" {
			t.Fatalf("a run of %d pages left bytes", m)
		}
		w.a.Forget()
		for slot := range m {
			w.mallocs(16*32, addrOf(8, slot, 0))
		}
		w.refuses(1, api.ErrNone)
	}
}

func TestFreedBytesAreNoughtsWhenHadAgain(t *testing.T) {
	w := lay(t, 32, 1, 0)
	for round := range 3 {
		for kind := range 8 {
			addrs := w.some(pers[kind]+1, unitOf(kind))
			for _, addr := range addrs {
				w.fill(addr, round)
			}
			w.frees(addrs[:pers[kind]/2]...)
			// The harness wants noughts of each block that is had.
			again := w.some(pers[kind]/2, unitOf(kind))
			for _, addr := range addrs[pers[kind]/2:] {
				w.filled(addr, round)
			}
			w.frees(again...)
			w.frees(addrs[pers[kind]/2:]...)
		}
		run := w.some(1, 16*512)
		w.fill(run[0], round)
		w.frees(run...)
	}
}
