package heap

import (
	"fmt"
	"math/rand"
	"slices"
	"strings"
	"testing"

	"garth/api"
	"garth/class"
	"garth/demand"
	"garth/place"
)

// P17.4

// settled has small blocks in full pages and in one with room, and runs, all filled.
func settled(t *testing.T, pages, colours int, window ...int) (*twin, []int) {
	t.Helper()
	w := lay(t, pages, colours, window...)
	all := w.some(3, 180)
	all = append(all, w.some(3, 40)...)
	all = append(all, w.some(1, 700)...)
	all = append(all, w.some(1, 1500)...)
	for _, addr := range all {
		w.fill(addr, 5)
	}
	return w, all
}

// stand wants blocks to be where they were, with their bytes.
func (w *twin) stand(addrs []int, seed int) {
	w.Helper()
	for _, addr := range addrs {
		w.filled(addr, seed)
		if n, err := w.usable(addr); n != unitOf(w.p.had[addr].kind) || err != api.OK {
			w.Fatalf("Usable(%d): %d, %d", addr, n, err)
		}
	}
}

func TestMoveToTheSameWindow(t *testing.T) {
	w, all := settled(t, 32, 4, 1, 2)
	before := w.h.Table().Copy()
	for _, window := range [][]int{{1, 2}, {2, 1}, {1, 2, 1, 2}, {2, 9, 1, -4}, {0, 1, 2, 3}, {1, 2, 3}} {
		if err := w.h.Move(window...); err != api.OK {
			t.Fatalf("Move(%v): %d", window, err)
		}
		touched(t, w.a, "Move to what has all its colours")
		w.moves(window...)
		for _, v := range before.All() {
			if w.h.Table().Find(v) != before.Find(v) {
				t.Fatalf("Move(%v): the local page %d is %d, was %d", window, v, w.h.Table().Find(v), before.Find(v))
			}
		}
		w.stand(all, 5)
	}
	w.moves(1, 2)
}

func TestMoveToAPartInCommon(t *testing.T) {
	w, all := settled(t, 32, 4, 1, 2)
	// Pages 1 2 (kind 6's), 5 (kind 2's), 6 9 (two pages), 10 13 14 (three), in the order in which they were asked for.
	w.holds([2]int{768, 5}, [2]int{1792, 1}, [2]int{1793, 2}, [2]int{2560, 6}, [2]int{2561, 9}, [2]int{2816, 10}, [2]int{2817, 13}, [2]int{2818, 14})
	w.moves(3, 2)
	// By rising local pages: what is of colour 1 goes to the lowest free page of 2 and 3.
	w.holds([2]int{768, 3}, [2]int{1792, 7}, [2]int{1793, 2}, [2]int{2560, 6}, [2]int{2561, 11}, [2]int{2816, 10}, [2]int{2817, 15}, [2]int{2818, 14})
	w.stand(all, 5)
	if w.m.Free(1) != 8 {
		t.Fatal("the colour 1 isn't let go of")
	}
	w.frees(all...)
	if w.h.Pages() != 0 || w.m.Free(0, 1, 2, 3) != 32 {
		t.Fatal(w.h.Pages())
	}
}

func TestMoveToNoColourInCommon(t *testing.T) {
	w, all := settled(t, 32, 4, 1, 2)
	w.moves(0)
	w.holds([2]int{768, 0}, [2]int{1792, 4}, [2]int{1793, 8}, [2]int{2560, 12}, [2]int{2561, 16}, [2]int{2816, 20}, [2]int{2817, 24}, [2]int{2818, 28})
	w.stand(all, 5)
	w.refuses(1, api.ErrNone)
	w.moves(3, 0, 3)
	w.mallocs(1, 131072)
	w.moves(3, 1, 2)
	w.stand(all, 5)
	w.frees(all...)
	w.frees(131072)
}

func TestMoveToJustAsManyFreePagesAndOneFewer(t *testing.T) {
	// 6 pages a colour; the other heap has some of the colours 1 and 2.
	for others := range 13 {
		l := lie(t, 18*512, 18, 3)
		other := l.settle(1, 2)
		other.some(others, 512)
		w := l.settle(0)
		all := append(w.some(1, 1536), w.some(10, 40)...)
		for _, addr := range all {
			w.fill(addr, others)
		}
		// Four pages are held.
		if 12-others >= 4 {
			w.moves(1, 2)
			if w.m.Free(0) != 6 || w.m.Free(1, 2) != 12-others-4 {
				t.Fatal(others, w.m.Free(0), w.m.Free(1, 2))
			}
		} else {
			w.stays(1, 2)
			if w.m.Free(0) != 2 || w.m.Free(1, 2) != 12-others {
				t.Fatal(others, w.m.Free(0), w.m.Free(1, 2))
			}
		}
		w.stand(all, others)
	}
}

// Pages that are of the new window's colours ask for no free page; those that are outside do, though they free others.
func TestMoveCountsWhatIsOutsideAlone(t *testing.T) {
	w := lay(t, 8, 2, 0, 1)
	w.mallocs(6*512, addrOf(13, 0, 0))
	w.fill(addrOf(13, 0, 0), 2)
	// Three are of each colour, and one of each is free.
	w.stays(0)
	w.stays(1)
	w.stays(1, 5, -2, 1)
	w.frees(addrOf(13, 0, 0))
	w.mallocs(4*512, addrOf(11, 0, 0))
	w.moves(1)
	w.holds([2]int{3072, 5}, [2]int{3073, 1}, [2]int{3074, 7}, [2]int{3075, 3})
	w.stays(2)
	w.moves(0)
	w.stays()
}

func TestMoveToNoColourAtAll(t *testing.T) {
	for _, window := range [][]int{nil, {}, {2}, {-1}, {5, 6}, far} {
		w := lay(t, 8, 2, 0, 1)
		w.mallocs(5, 131072)
		w.stays(window...)
		w.frees(131072)
		w.moves(window...)
		w.refuses(5, api.ErrNone)
		w.refuses(600, api.ErrNone)
		w.refuses(0, api.ErrSize)
		w.moves(1)
		w.mallocs(5, 131072)
		w.holds([2]int{256, 1})
	}
}

// Pages with room give out, behind Move, what they would have without it: links and all lie in the new page.
func TestMallocAndFreeBehindMove(t *testing.T) {
	for kind := range 8 {
		n, per := unitOf(kind), pers[kind]
		for seed := range 20 {
			one, two := lay(t, 24, 3, 0), lay(t, 24, 3, 0)
			r := rand.New(rand.NewSource(int64(100*kind + seed)))
			var had []int
			for step := range 4 * per {
				if r.Intn(3) > 0 || len(had) == 0 {
					a, err := one.malloc(n)
					if b, errB := two.malloc(n); a != b || err != errB {
						t.Fatalf("kind %d: %d, %d behind Move, %d, %d without", kind, b, errB, a, err)
					}
					if err == api.OK {
						had = append(had, a)
						one.fill(a, 1)
						two.fill(a, 1)
					}
				} else {
					i := r.Intn(len(had))
					one.frees(had[i])
					two.frees(had[i])
					had = slices.Delete(had, i, i+1)
				}
				if step%3 == 0 {
					two.moves([]int{1, 2, 0}[step/3%3])
				}
			}
			two.stand(had, 1)
			one.frees(had...)
			two.frees(had...)
		}
	}
}

func TestMoveOfAFullPage(t *testing.T) {
	for kind := range 8 {
		w := lay(t, 8, 2, 0)
		all := w.some(pers[kind], unitOf(kind))
		w.moves(1)
		w.mallocs(unitOf(kind), addrOf(kind, 1, 0))
		w.holds([2]int{addrOf(kind, 0, 0) / 512, 1}, [2]int{addrOf(kind, 1, 0) / 512, 3})
		w.frees(all[1])
		w.frees(addrOf(kind, 1, 0))
		w.mallocs(unitOf(kind), all[1])
		w.frees(all...)
		w.holds()
	}
}

// What stood in the page that is taken is nobody's: the copy covers it.
func TestMoveCoversWhatStoodThere(t *testing.T) {
	w := lay(t, 4, 2, 0)
	w.mallocs(16, 131072)
	w.fill(131072, 9)
	for i := range 512 {
		w.g.bytes[512+i] = 0xff
	}
	w.a.Write(512, strings.Repeat("\xff", 512))
	w.a.Forget()
	w.moves(1)
	w.stand([]int{131072}, 9)
	if s, _ := w.a.Read(512+16, 496); strings.Trim(s, "\x00") != "" {
		t.Fatalf("%x", s)
	}
}

func TestDrop(t *testing.T) {
	w := lay(t, 32, 4, 1, 3)
	w.drop()
	w.drop()
	w.mallocs(1, 131072)
	w.drop()
	w.none(131072)
	for round := range 3 {
		all := append(w.some(33, 16), w.some(3, 180)...)
		all = append(append(all, w.some(2, 512)...), w.some(1, 2048)...)
		if all[0] != 131072 || all[32] != 131584 || all[33] != addrOf(6, 0, 0) || all[38] != addrOf(11, 0, 0) {
			t.Fatal(round, all)
		}
		for _, addr := range all {
			w.fill(addr, round)
		}
		// Lines that have pages, and pages that have chains, go too.
		w.frees(all[3], all[1], all[34])
		w.drop()
		w.holds()
		w.none(all...)
		if w.m.Free(0, 1, 2, 3) != 32 || len(w.h.Blocks()) != 0 || !slices.Equal(w.h.Window(), []int{1, 3}) {
			t.Fatal(w.m.Free(0, 1, 2, 3), w.h.Blocks(), w.h.Window())
		}
		if s, _ := w.a.Read(0, w.a.Size()); strings.Trim(s, "\x00") != "" {
			t.Fatal("Drop left bytes")
		}
		w.a.Forget()
	}
}

// Nothing of what was dropped is to be told from a heap that was never used.
func TestDroppedIsAsNew(t *testing.T) {
	for seed := range 10 {
		w, fresh := lay(t, 48, 3, 2, 0), lay(t, 48, 3, 2, 0)
		walk(w, int64(seed), 80, 1, [][]int{{2, 0}})
		w.moves(2, 0)
		w.drop()
		for _, n := range []int{16, 600, 16, 200, 200, 200, 5000, 40, 90, 60, 128, 16, 256} {
			addr, err := w.malloc(n)
			want, wantErr := fresh.malloc(n)
			if addr != want || err != wantErr || w.h.Table().Find(addr/512) != fresh.h.Table().Find(addr/512) {
				t.Fatalf("Malloc(%d) behind Drop: %d, %d, wanted %d, %d", n, addr, err, want, wantErr)
			}
		}
	}
}

func TestTouches(t *testing.T) {
	a, _, h := raw(t, 16, 2, 1)
	malloc := func(n, want int) {
		t.Helper()
		if addr, err := h.Malloc(n); addr != want || err != api.OK {
			t.Fatalf("Malloc(%d): %d, %d", n, addr, err)
		}
	}
	free := func(addr int) {
		t.Helper()
		if err := h.Free(addr); err != api.OK {
			t.Fatalf("Free(%d): %d", addr, err)
		}
	}
	malloc(32, 262144)
	malloc(32, 262176)
	malloc(32, 262208)
	malloc(1024, 1310720)
	touched(t, a, "Malloc of what was never had")
	h.Usable(262176)
	h.Blocks()
	h.Malloc(0)
	h.Malloc(8192)
	h.Free(262177)
	h.Move(7)
	touched(t, a, "what is told, or refused")
	// The small blocks lie in the page 1, the run in 3 and 5.
	free(262176)
	touched(t, a, "Free", wrote(512+32, 32), wrote(512+32, 8))
	free(262208)
	touched(t, a, "Free", wrote(512+64, 32), wrote(512+64, 8))
	malloc(32, 262208)
	touched(t, a, "Malloc of what was given back", read(512+64, 8), wrote(512+64, 8))
	if err := h.Move(0); err != api.OK {
		t.Fatal(err)
	}
	touched(t, a, "Move", read(512, 512), wrote(0, 512), wrote(512, 512), read(1536, 512), wrote(1024, 512), wrote(1536, 512), read(2560, 512), wrote(2048, 512), wrote(2560, 512))
	malloc(32, 262176)
	touched(t, a, "Malloc behind Move", read(32, 8), wrote(32, 8))
	free(262208)
	free(262176)
	a.Forget()
	free(262144)
	touched(t, a, "Free of a page's last one", wrote(0, 32), wrote(0, 8), wrote(0, 512))
	// The lowest free page comes ahead of the run's own ones.
	malloc(16, 131072)
	free(1310720)
	touched(t, a, "Free of a run", wrote(1024, 512), wrote(2048, 512))
	malloc(1536, 1441792)
	malloc(256, 1048576)
	h.Drop()
	touched(t, a, "Drop", wrote(0, 512), wrote(4096, 512), wrote(1024, 512), wrote(2048, 512), wrote(3072, 512))
	h.Drop()
	touched(t, a, "Drop of nothing")
}

// P17.5

func TestNilHeap(t *testing.T) {
	var h *Heap
	for _, n := range append([]int{0, 1, 16, 257, 8192, 8193, 131072, 1310720}, far...) {
		if addr, err := h.Malloc(n); addr != 0 || err != api.ErrNil {
			t.Fatalf("Malloc(%d): %d, %d", n, addr, err)
		}
		if err := h.Free(n); err != api.ErrNil {
			t.Fatalf("Free(%d): %d", n, err)
		}
		if got, err := h.Usable(n); got != 0 || err != api.ErrNil {
			t.Fatalf("Usable(%d): %d, %d", n, got, err)
		}
		if err := h.Move(n); err != api.ErrNil {
			t.Fatalf("Move(%d): %d", n, err)
		}
	}
	if err := h.Move(); err != api.ErrNil {
		t.Fatalf("Move(): %d", err)
	}
	if len(h.Blocks()) != 0 || h.Pages() != 0 || h.Table() != nil || len(h.Window()) != 0 {
		t.Fatal(h.Blocks(), h.Pages(), h.Table(), h.Window())
	}
	h.Drop()
}

// A heap that nobody made by New has no arena: nothing can be had of it, and nothing panics.
func TestNobodyMadeIt(t *testing.T) {
	h := &Heap{}
	for range 2 {
		for _, n := range []int{1, 256, 257, 8192} {
			if addr, err := h.Malloc(n); addr != 0 || err != api.ErrNone {
				t.Fatalf("Malloc(%d): %d, %d", n, addr, err)
			}
		}
		if h.Free(131072) != api.ErrNone || h.Free(1310720) != api.ErrNone || h.Pages() != 0 || len(h.Blocks()) != 0 {
			t.Fatal("something is had")
		}
		h.Move(0, 1)
		h.Drop()
	}
}

// P17.6

func TestTwoHeapsThatNeverMeet(t *testing.T) {
	l := lie(t, 48*512, 48, 4)
	one, two := l.settle(0, 2), l.settle(1)
	alone := lay(t, 48, 4, 1)
	for step := range 60 {
		n := []int{16, 200, 512, 40, 1000}[step%5]
		one.malloc(n * 2)
		addr, err := two.malloc(n)
		want, wantErr := alone.malloc(n)
		if addr != want || err != wantErr {
			t.Fatalf("Malloc(%d): %d, %d; alone %d, %d", n, addr, err, want, wantErr)
		}
		if blocks := one.h.Blocks(); step%3 == 0 && len(blocks) > 0 {
			one.frees(blocks[len(blocks)/2])
		}
		if blocks := two.h.Blocks(); step%7 == 0 && len(blocks) > 0 {
			two.frees(blocks[0])
			alone.frees(blocks[0])
		}
	}
	one.drop()
	one.moves(3)
	for _, v := range two.h.Table().All() {
		if two.h.Table().Find(v) != alone.h.Table().Find(v) {
			t.Fatalf("the local page %d is %d, alone %d", v, two.h.Table().Find(v), alone.h.Table().Find(v))
		}
	}
}

func TestTwoHeapsOfOneWindow(t *testing.T) {
	l := lie(t, 12*512, 12, 3)
	one, two := l.settle(0, 1), l.settle(1, 2)
	one.mallocs(16, 131072)
	two.mallocs(16, 131072)
	one.mallocs(1024, 1310720)
	two.mallocs(1024, 1310720)
	one.holds([2]int{256, 0}, [2]int{2560, 3}, [2]int{2561, 4})
	two.holds([2]int{256, 1}, [2]int{2560, 2}, [2]int{2561, 5})
	one.fill(1310720, 1)
	two.fill(1310720, 2)
	one.moves(1)
	two.moves(2)
	one.holds([2]int{256, 7}, [2]int{2560, 10}, [2]int{2561, 4})
	two.holds([2]int{256, 8}, [2]int{2560, 2}, [2]int{2561, 5})
	one.filled(1310720, 1)
	two.filled(1310720, 2)
	two.stays(1)
	one.stays(2)
	one.drop()
	two.moves(1, 0)
	two.filled(1310720, 2)
	two.none(131073)
	two.frees(131072)
	one.none(131072, 1310720)
}

// held are the pages that a heap holds, by the table it hands out.
func held(h *Heap) map[int]bool {
	out := map[int]bool{}
	for _, v := range h.Table().All() {
		out[h.Table().Find(v)] = true
	}
	return out
}

// apart wants that no two blocks have a byte in common, neither by their addresses nor in the arena, and that all lie in pages that are held and taken.
func (w *twin) apart() {
	w.Helper()
	seen, end := map[int]int{}, 0
	for _, addr := range w.h.Blocks() {
		n, err := w.h.Usable(addr)
		if err != api.OK || addr < end {
			w.Fatalf("the block %d: %d, %d; the one ahead ends at %d", addr, n, err, end)
		}
		kind, _, _, err := place.Find(addr)
		if err != api.OK || addr%class.Align(kind) != 0 {
			w.Fatalf("the block %d is no block's place, or not aligned", addr)
		}
		end = addr + n
		pieces, err := w.h.Table().Pieces(addr, n)
		if err != api.OK {
			w.Fatalf("the block %d: %d", addr, err)
		}
		for _, piece := range pieces {
			if !w.m.Taken(piece.At / 512) {
				w.Fatalf("the block %d lies in the page %d, which is free", addr, piece.At/512)
			}
			for i := piece.At; i < piece.At+piece.N; i += 16 {
				if other, there := seen[i]; there {
					w.Fatalf("the blocks %d and %d both have the byte %d", other, addr, i)
				}
				seen[i] = addr
			}
		}
	}
}

// cost is what all blocks cost.
func (w *twin) cost() int {
	n := 0
	for _, addr := range w.h.Blocks() {
		unit, _ := w.h.Usable(addr)
		n += unit
	}
	return n
}

// sizeBy is a size of any kind; small ones come more often.
func sizeBy(r *rand.Rand) int {
	kind := r.Intn(8)
	switch r.Intn(8) {
	case 0:
		kind = 8 + r.Intn(16)
	case 1, 2:
		kind = 8 + r.Intn(3)
	}
	return least(kind) + r.Intn(unitOf(kind)-least(kind)+1)
}

// walk does what comes, all of which the harness holds against the plain heap; others may share the land.
func walk(w *twin, seed int64, steps, moves int, windows [][]int) {
	w.Helper()
	r := rand.New(rand.NewSource(seed))
	for range steps {
		blocks := w.h.Blocks()
		pick := func() int {
			if len(blocks) == 0 {
				return 131072
			}
			return blocks[r.Intn(len(blocks))]
		}
		w.step(r, pick, moves, windows)
		w.apart()
		w.frugal()
	}
}

// frugal wants no more pages than layer 5 says, for what the blocks cost at most.
func (w *twin) frugal() {
	w.Helper()
	w.peak = max(w.peak, w.cost())
	if w.cost() == 0 {
		w.peak = 0
	}
	// Beside ErrArg, of 0 bytes, the sum is 0.
	s, _ := demand.Of(w.peak)
	if w.h.Pages() > s.Pages() {
		w.Fatalf("%d pages are held; %d bytes take %d at most", w.h.Pages(), w.peak, s.Pages())
	}
}

// step does one of the calls.
func (w *twin) step(r *rand.Rand, pick func() int, moves int, windows [][]int) {
	w.Helper()
	switch k := r.Intn(20); {
	case k < 9:
		addr, err := w.malloc(sizeBy(r))
		if err == api.OK {
			w.fill(addr, r.Intn(9))
		}
	case k < 16:
		w.free(pick())
	case k < 17:
		w.free(pick() + []int{1, 8, 16, 512, -16, -512}[r.Intn(6)])
	case k < 18:
		w.malloc([]int{0, -1, 8193, 1 << 40}[r.Intn(4)])
	case k < 19 && r.Intn(10) < moves*3:
		w.move(windows[r.Intn(len(windows))]...)
	case r.Intn(40) == 0:
		w.drop()
	}
}

var walkWindows = [][]int{{0}, {1}, {2}, {3}, {0, 1}, {2, 3}, {3, 1, 0}, {0, 1, 2, 3}, {1, 1, 7}, {}, {2, -1, 2}}

func TestWalksOfOneHeap(t *testing.T) {
	for seed := range 30 {
		t.Run(fmt.Sprint(seed), func(t *testing.T) {
			pages := []int{8, 16, 32, 64}[seed%4]
			walk(lay(t, pages, 4, walkWindows[seed%8]...), int64(seed), 250, 3, walkWindows)
		})
	}
}

func TestWalksOfThreeHeaps(t *testing.T) {
	for seed := range 8 {
		l := lie(t, 48*512, 48, 4)
		all := []*twin{l.settle(0), l.settle(1, 2), l.settle(2, 3)}
		for round := range 45 {
			walk(all[round%3], int64(1000*seed+round), 6, 3, walkWindows)
		}
		for _, w := range all {
			w.drop()
		}
		if l.m.Free(0, 1, 2, 3) != 48 {
			t.Fatal(l.m.Free(0, 1, 2, 3))
		}
	}
}

// Touches of each call, of heaps that share an arena, lie in the heap's own pages.
func TestWhatIsTouchedIsHeld(t *testing.T) {
	for seed := range 6 {
		l := lie(t, 48*512, 48, 4)
		all := []*twin{l.settle(0), l.settle(1, 2), l.settle(2, 3)}
		r := rand.New(rand.NewSource(int64(seed)))
		for range 500 {
			h := all[r.Intn(3)].h
			blocks, before := h.Blocks(), held(h)
			l.a.Forget()
			switch k := r.Intn(20); {
			case k < 10:
				h.Malloc(sizeBy(r))
			case k < 17 && len(blocks) > 0:
				h.Free(blocks[r.Intn(len(blocks))])
			case k < 19:
				h.Move(walkWindows[r.Intn(len(walkWindows))]...)
			case r.Intn(5) == 0:
				h.Drop()
			}
			after := held(h)
			for _, span := range l.a.Touched() {
				first, last := span.At/512, (span.At+span.N-1)/512
				if first != last || !before[first] && !after[first] {
					t.Fatalf("touched %v: held %v, then %v", span, before, after)
				}
			}
		}
	}
}

// No more pages than layer 5 says, where somebody does the worst: one block a page is left, kind by kind.
func TestPagesAreNeverMoreThanLayerFiveSays(t *testing.T) {
	for _, quota := range []int{16, 100, 512, 1000, 1024, 2048, 5000} {
		s, err := demand.Of(quota)
		if err != api.OK {
			t.Fatal(err)
		}
		_, m, h := raw(t, 4*s.Pages(), 4, 1)
		cost := 0
		for kind := range 24 {
			for cost+unitOf(kind) <= quota {
				if _, err := h.Malloc(unitOf(kind)); err != api.OK {
					t.Fatalf("quota %d: kind %d: %d, with %d pages free", quota, kind, err, m.Free(1))
				}
				cost += unitOf(kind)
				if h.Pages() > s.Pages() {
					t.Fatalf("quota %d: %d pages, at most %d", quota, h.Pages(), s.Pages())
				}
			}
			cost -= thin(t, h, kind)
		}
	}
}

// thin frees all blocks of a kind but the first one of each page: what they cost.
func thin(t *testing.T, h *Heap, kind int) int {
	t.Helper()
	cost := 0
	for _, addr := range h.Blocks() {
		if k, _, number, _ := place.Find(addr); k == kind && number > 0 {
			if err := h.Free(addr); err != api.OK {
				t.Fatal(err)
			}
			cost += unitOf(kind)
		}
	}
	return cost
}

// What the document says nothing of.

// A map of more pages than the arena has whole: those that it hasn't are never had.
func TestArenaOfFewerPagesThanTheMap(t *testing.T) {
	for _, size := range []int{0, 1, 511, 512, 513, 1024, 3*512 + 100, 8 * 512, 9 * 512} {
		whole := min(size/512, 8)
		for m := 1; m <= 9; m++ {
			w := lie(t, size, 8, 1).settle(0)
			if m > whole {
				w.refuses(m*512, api.ErrNone)
			} else {
				w.mallocs(m*512, addrOf(7+m, 0, 0))
			}
		}
		for kind := range 8 {
			w := lie(t, size, 8, 1).settle(0)
			for slot := range whole {
				for k := range pers[kind] {
					w.mallocs(unitOf(kind), addrOf(kind, slot, k))
				}
			}
			w.refuses(unitOf(kind), api.ErrNone)
			w.drop()
		}
	}
	w := lie(t, 3*512, 8, 2).settle(0)
	w.mallocs(600, 1310720)
	w.stays(1)
	w.frees(1310720)
	w.mallocs(180, addrOf(6, 0, 0))
	w.moves(1)
	w.holds([2]int{addrOf(6, 0, 0) / 512, 1})
	w.refuses(600, api.ErrNone)
	w.moves(0, 1)
}

// Who writes into free blocks may spoil a page: then it is refused, and nothing else is done.
func TestSpoiltLinks(t *testing.T) {
	for _, link := range []uint64{1, 2, 3, 17, 99, 1 << 63} {
		a, m, h := raw(t, 8, 1, 0)
		for range 5 {
			h.Malloc(32)
		}
		h.Free(262144 + 64)
		h.Free(262144 + 32)
		a.Store(32, link)
		for range 40 {
			if addr, err := h.Malloc(32); err == api.OK && slices.Index(h.Blocks(), addr) < 0 {
				t.Fatalf("link %d: %d isn't among the blocks", link, addr)
			}
		}
		blocks := h.Blocks()
		if len(slices.Compact(slices.Clone(blocks))) != len(blocks) {
			t.Fatalf("link %d: %v", link, blocks)
		}
		h.Drop()
		if addr, err := h.Malloc(32); addr != 262144 || err != api.OK || m.Free(0) != 7 {
			t.Fatalf("link %d, behind Drop: %d, %d, %d", link, addr, err, m.Free(0))
		}
	}
}
