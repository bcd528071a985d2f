package heap

import (
	"encoding/binary"
	"fmt"
	"slices"
	"testing"

	"garth/api"
	"garth/arena"
	"garth/colour"
)

// The kinds, written out as the document has them.
var (
	units = [8]int{16, 32, 48, 64, 96, 128, 192, 256}
	pers  = [8]int{32, 16, 10, 8, 5, 4, 2, 2}
)

func unitOf(kind int) int {
	if kind < 8 {
		return units[kind]
	}
	return (kind - 7) * 512
}

func pagesOf(kind int) int {
	return max(kind-7, 1)
}

// kindOf is the least kind that serves: their bytes rise from kind to kind.
func kindOf(n int) int {
	for kind := range 24 {
		if n >= 1 && unitOf(kind) >= n {
			return kind
		}
	}
	return -1
}

// addrOf is where a block begins.
func addrOf(kind, slot, k int) int {
	return (kind+1)*131072 + slot*pagesOf(kind)*512 + k*unitOf(kind)
}

// ground is an arena and a map the plain way: bytes, what of them was touched, and which pages are taken.
type ground struct {
	bytes   []byte
	touches []api.Span
	taken   []bool
	colours int
}

func (g *ground) touch(at, n int, wrote bool) {
	g.touches = append(g.touches, api.Span{At: at, N: n, Wrote: wrote})
}

func (g *ground) store(at int, v uint64) {
	g.touch(at, 8, true)
	binary.LittleEndian.PutUint64(g.bytes[at:], v)
}

func (g *ground) zero(at, n int) {
	g.touch(at, n, true)
	clear(g.bytes[at : at+n])
}

func (g *ground) in(p int, window []int) bool {
	return slices.Contains(window, p%g.colours)
}

// free are the free pages of a window, rising; pages that aren't within the arena whole are none.
func (g *ground) free(window []int) []int {
	var out []int
	for p, taken := range g.taken {
		if !taken && g.in(p, window) && (p+1)*512 <= len(g.bytes) {
			out = append(out, p)
		}
	}
	return out
}

// small is a page of small blocks the plain way: it knows their order without asking the arena.
type small struct {
	had            []bool
	fresh          int
	free, deferred []int
}

func (s *small) used() int {
	n := 0
	for _, had := range s.had {
		if had {
			n++
		}
	}
	return n
}

func (s *small) full() bool { return s.used() == len(s.had) }

// block is what is had, and the local page in which it begins.
type block struct{ kind, slot, k, v int }

// plain is a heap the plain way: it looks blocks up by their addresses, and never reckons a block from one.
type plain struct {
	g      *ground
	window []int
	had    map[int]block
	taken  map[[2]int]bool
	pages  map[int]int
	smalls map[int]*small
	lines  [8][]int
}

func (p *plain) blocks() []int {
	var out []int
	for addr := range p.had {
		out = append(out, addr)
	}
	slices.Sort(out)
	return out
}

func (p *plain) locals() []int {
	var out []int
	for v := range p.pages {
		out = append(out, v)
	}
	slices.Sort(out)
	return out
}

// slot is the lowest free one; -1, if none is.
func (p *plain) slot(kind int) int {
	for slot := range 256 / pagesOf(kind) {
		if !p.taken[[2]int{kind, slot}] {
			return slot
		}
	}
	return -1
}

// hold takes a slot, and pages for it.
func (p *plain) hold(kind int) (int, bool) {
	slot, free := p.slot(kind), p.g.free(p.window)
	if slot < 0 || len(free) < pagesOf(kind) {
		return 0, false
	}
	p.taken[[2]int{kind, slot}] = true
	for i := range pagesOf(kind) {
		p.pages[addrOf(kind, slot, 0)/512+i] = free[i]
		p.g.taken[free[i]] = true
	}
	return slot, true
}

func (p *plain) letGo(v int) {
	page := p.pages[v]
	p.g.zero(page*512, 512)
	p.g.taken[page] = false
	delete(p.pages, v)
}

func (p *plain) malloc(n int) (int, api.Errno) {
	kind := kindOf(n)
	if kind < 0 {
		return 0, api.ErrSize
	}
	if kind < 8 {
		return p.mallocSmall(kind)
	}
	slot, ok := p.hold(kind)
	if !ok {
		return 0, api.ErrNone
	}
	addr := addrOf(kind, slot, 0)
	p.had[addr] = block{kind, slot, 0, addr / 512}
	return addr, api.OK
}

func (p *plain) mallocSmall(kind int) (int, api.Errno) {
	if len(p.lines[kind]) == 0 {
		slot, ok := p.hold(kind)
		if !ok {
			return 0, api.ErrNone
		}
		v := addrOf(kind, slot, 0) / 512
		p.smalls[v] = &small{had: make([]bool, pers[kind])}
		p.lines[kind] = append(p.lines[kind], v)
	}
	v := p.lines[kind][0]
	k := p.pop(kind, v)
	if p.smalls[v].full() {
		p.lines[kind] = p.lines[kind][1:]
	}
	slot := v - (kind+1)*256
	addr := addrOf(kind, slot, k)
	p.had[addr] = block{kind, slot, k, v}
	return addr, api.OK
}

// pop is the block that a page with room gives out.
func (p *plain) pop(kind, v int) int {
	s := p.smalls[v]
	k := s.fresh
	if len(s.free) == 0 {
		s.free, s.deferred = s.deferred, nil
	}
	if len(s.free) > 0 {
		k = s.free[0]
		s.free = slices.Clone(s.free[1:])
		at := p.pages[v]*512 + k*units[kind]
		p.g.touch(at, 8, false)
		p.g.store(at, 0)
	} else {
		s.fresh++
	}
	s.had[k] = true
	return k
}

func (p *plain) usable(addr int) (int, api.Errno) {
	b, ok := p.had[addr]
	if !ok {
		return 0, api.ErrNone
	}
	return unitOf(b.kind), api.OK
}

func (p *plain) giveBack(addr int) api.Errno {
	b, ok := p.had[addr]
	if !ok {
		return api.ErrNone
	}
	delete(p.had, addr)
	if b.kind < 8 && p.push(b) > 0 {
		return api.OK
	}
	for i := range pagesOf(b.kind) {
		p.letGo(b.v + i)
	}
	delete(p.taken, [2]int{b.kind, b.slot})
	return api.OK
}

// push takes a small block back: how many of its page are had then.
func (p *plain) push(b block) int {
	s := p.smalls[b.v]
	if s.full() {
		p.lines[b.kind] = append(p.lines[b.kind], b.v)
	}
	link := 0
	if len(s.deferred) > 0 {
		link = s.deferred[0] + 1
	}
	at := p.pages[b.v]*512 + b.k*units[b.kind]
	p.g.zero(at, units[b.kind])
	p.g.store(at, uint64(link))
	s.deferred = append([]int{b.k}, s.deferred...)
	s.had[b.k] = false
	if s.used() == 0 {
		p.lines[b.kind] = slices.DeleteFunc(slices.Clone(p.lines[b.kind]), func(v int) bool { return v == b.v })
		delete(p.smalls, b.v)
	}
	return s.used()
}

func (p *plain) move(window []int) api.Errno {
	count := 0
	for _, page := range p.pages {
		if !p.g.in(page, window) {
			count++
		}
	}
	if count > len(p.g.free(window)) {
		return api.ErrNone
	}
	p.window = slices.Clone(window)
	for _, v := range p.locals() {
		old := p.pages[v]
		if p.g.in(old, window) {
			continue
		}
		next := p.g.free(window)[0]
		p.g.taken[next] = true
		copy(p.g.bytes[next*512:next*512+512], p.g.bytes[old*512:])
		p.g.touch(old*512, 512, false)
		p.g.touch(next*512, 512, true)
		p.g.zero(old*512, 512)
		p.g.taken[old] = false
		p.pages[v] = next
	}
	return api.OK
}

func (p *plain) drop() {
	for _, v := range p.locals() {
		p.letGo(v)
	}
	*p = plain{g: p.g, window: p.window}
	p.begin()
}

func (p *plain) begin() {
	p.had, p.taken, p.pages, p.smalls = map[int]block{}, map[[2]int]bool{}, map[int]int{}, map[int]*small{}
}

// land is an arena and its map, the same the plain way, and all heaps that use them.
type land struct {
	*testing.T
	a   *arena.Arena
	m   *colour.Map
	g   *ground
	all []*twin
}

// twin is a heap, and the plain one that it is held against.
type twin struct {
	*land
	h *Heap
	p *plain
	// What the blocks cost at most since none was had.
	peak int
}

// lie makes an arena of so many bytes, and a map of so many pages and colours.
func lie(t *testing.T, size, pages, colours int) *land {
	t.Helper()
	a, err := arena.New(size)
	if err != api.OK {
		t.Fatalf("no arena of %d bytes: %d", size, err)
	}
	m, err := colour.New(api.Config{Pages: pages, Colours: colours})
	if err != api.OK {
		t.Fatalf("no map of %d pages, %d colours: %d", pages, colours, err)
	}
	return &land{T: t, a: a, m: m, g: &ground{bytes: make([]byte, size), taken: make([]bool, pages), colours: colours}}
}

// settle makes one more heap there.
func (l *land) settle(window ...int) *twin {
	l.Helper()
	h, err := New(l.a, l.m, window...)
	if err != api.OK || h == nil {
		l.Fatalf("New(%v): %v, %d", window, h, err)
	}
	w := &twin{land: l, h: h, p: &plain{g: l.g, window: slices.Clone(window)}}
	w.p.begin()
	l.all = append(l.all, w)
	l.same("New")
	return w
}

// lay makes a heap in an arena of its own.
func lay(t *testing.T, pages, colours int, window ...int) *twin {
	t.Helper()
	return lie(t, pages*512, pages, colours).settle(window...)
}

// same holds against each other all that can be told without a change, of all heaps, and what was touched since the last time.
func (l *land) same(what string) {
	l.Helper()
	if got := l.a.Touched(); !slices.Equal(got, l.g.touches) {
		l.Fatalf("%s: touched %v, wanted %v", what, got, l.g.touches)
	}
	if got, _ := l.a.Read(0, l.a.Size()); got != string(l.g.bytes) {
		l.Fatalf("%s: the arena's bytes are others, from %d on", what, unlike(got, string(l.g.bytes)))
	}
	for p, want := range l.g.taken {
		if got := l.m.Taken(p); got != want {
			l.Fatalf("%s: the page %d: taken %v", what, p, got)
		}
	}
	for i, w := range l.all {
		w.tells(fmt.Sprintf("%s, heap %d", what, i))
	}
	l.a.Forget()
	l.g.touches = nil
}

func unlike(a, b string) int {
	for i := range min(len(a), len(b)) {
		if a[i] != b[i] {
			return i
		}
	}
	return min(len(a), len(b))
}

// tells holds against each other what two heaps tell of themselves.
func (w *twin) tells(what string) {
	w.Helper()
	if got := w.h.Window(); !slices.Equal(got, w.p.window) {
		w.Fatalf("%s: Window %v, wanted %v", what, got, w.p.window)
	}
	if got, want := w.h.Blocks(), w.p.blocks(); !slices.Equal(got, want) {
		w.Fatalf("%s: Blocks %v, wanted %v", what, got, want)
	}
	if got, want := w.h.Pages(), len(w.p.pages); got != want {
		w.Fatalf("%s: Pages %d, wanted %d", what, got, want)
	}
	x := w.h.Table()
	if got, want := x.All(), w.p.locals(); !slices.Equal(got, want) {
		w.Fatalf("%s: local pages %v, wanted %v", what, got, want)
	}
	for v, want := range w.p.pages {
		if got := x.Find(v); got != want {
			w.Fatalf("%s: the local page %d is %d, wanted %d", what, v, got, want)
		}
	}
	for addr, b := range w.p.had {
		if got, err := w.h.Usable(addr); got != unitOf(b.kind) || err != api.OK {
			w.Fatalf("%s: Usable(%d): %d, %d", what, addr, got, err)
		}
	}
}

func (w *twin) malloc(n int) (int, api.Errno) {
	w.Helper()
	got, err := w.h.Malloc(n)
	want, wantErr := w.p.malloc(n)
	if got != want || err != wantErr {
		w.Fatalf("Malloc(%d): %d, %d, wanted %d, %d", n, got, err, want, wantErr)
	}
	w.same(fmt.Sprintf("Malloc(%d)", n))
	if err == api.OK {
		w.noughts(got)
	}
	return got, err
}

func (w *twin) free(addr int) api.Errno {
	w.Helper()
	got, want := w.h.Free(addr), w.p.giveBack(addr)
	if got != want {
		w.Fatalf("Free(%d): %d, wanted %d", addr, got, want)
	}
	w.same(fmt.Sprintf("Free(%d)", addr))
	return got
}

func (w *twin) usable(addr int) (int, api.Errno) {
	w.Helper()
	got, err := w.h.Usable(addr)
	want, wantErr := w.p.usable(addr)
	if got != want || err != wantErr {
		w.Fatalf("Usable(%d): %d, %d, wanted %d, %d", addr, got, err, want, wantErr)
	}
	w.same(fmt.Sprintf("Usable(%d)", addr))
	return got, err
}

func (w *twin) move(window ...int) api.Errno {
	w.Helper()
	got, want := w.h.Move(window...), w.p.move(window)
	if got != want {
		w.Fatalf("Move(%v): %d, wanted %d", window, got, want)
	}
	w.same(fmt.Sprintf("Move(%v)", window))
	return got
}

func (w *twin) drop() {
	w.Helper()
	w.h.Drop()
	w.p.drop()
	w.same("Drop")
}

// at is where a local byte of the heap's lies.
func (w *twin) at(addr int) int {
	return w.p.pages[addr/512]*512 + addr%512
}

// fill writes all bytes of a block, as its tenant might.
func (w *twin) fill(addr, seed int) {
	w.Helper()
	for i := range unitOf(w.p.had[addr].kind) {
		w.g.bytes[w.at(addr+i)] = noise(addr, i, seed)
	}
	b := w.p.had[addr]
	for i := 0; i < unitOf(b.kind); i += 512 {
		n := min(512, unitOf(b.kind)-i)
		at := w.at(addr + i)
		if err := w.a.Write(at, string(w.g.bytes[at:at+n])); err != api.OK {
			w.Fatalf("Write(%d): %d", at, err)
		}
	}
	w.a.Forget()
}

// noise is never 0, so that a byte that is made 0 shows.
func noise(addr, i, seed int) byte {
	return byte((addr/16+i*7+seed*31)%255 + 1)
}

// filled wants a block to have what fill wrote.
func (w *twin) filled(addr, seed int) {
	w.Helper()
	for i := range unitOf(w.p.had[addr].kind) {
		if got, want := w.g.bytes[w.at(addr+i)], noise(addr, i, seed); got != want {
			w.Fatalf("the block %d: byte %d is %d, wanted %d", addr, i, got, want)
		}
	}
}

// noughts wants a block to be all 0.
func (w *twin) noughts(addr int) {
	w.Helper()
	for i := range unitOf(w.p.had[addr].kind) {
		if got := w.g.bytes[w.at(addr+i)]; got != 0 {
			w.Fatalf("the block %d, just had: byte %d is %d", addr, i, got)
		}
	}
}

// mallocs wants just these addresses, one after the other, each for n bytes.
func (w *twin) mallocs(n int, addrs ...int) {
	w.Helper()
	for i, want := range addrs {
		if got, err := w.malloc(n); got != want || err != api.OK {
			w.Fatalf("Malloc(%d), time %d: %d, %d, wanted %d", n, i, got, err, want)
		}
	}
}

// some has so many blocks for n bytes.
func (w *twin) some(count, n int) []int {
	w.Helper()
	var out []int
	for range count {
		addr, err := w.malloc(n)
		if err != api.OK {
			w.Fatalf("Malloc(%d): %d", n, err)
		}
		out = append(out, addr)
	}
	return out
}

// frees wants all of them to be given back.
func (w *twin) frees(addrs ...int) {
	w.Helper()
	for _, addr := range addrs {
		if err := w.free(addr); err != api.OK {
			w.Fatalf("Free(%d): %d", addr, err)
		}
	}
}

// refuses wants an error, and that it stays with that however often it is asked.
func (w *twin) refuses(n int, want api.Errno) {
	w.Helper()
	for range 2 {
		if got, err := w.malloc(n); got != 0 || err != want {
			w.Fatalf("Malloc(%d): %d, %d, wanted %d", n, got, err, want)
		}
	}
}

// moves wants that Move to be OK.
func (w *twin) moves(window ...int) {
	w.Helper()
	if err := w.move(window...); err != api.OK {
		w.Fatalf("Move(%v): %d", window, err)
	}
}

// stays wants that Move to be ErrNone.
func (w *twin) stays(window ...int) {
	w.Helper()
	before := w.h.Window()
	if err := w.move(window...); err != api.ErrNone {
		w.Fatalf("Move(%v): %d", window, err)
	}
	if !slices.Equal(w.h.Window(), before) {
		w.Fatalf("Move(%v) was refused, and the window is %v", window, w.h.Window())
	}
}

// none wants Free and Usable to say that no block that is had begins there.
func (w *twin) none(addrs ...int) {
	w.Helper()
	for _, addr := range addrs {
		if n, err := w.usable(addr); n != 0 || err != api.ErrNone {
			w.Fatalf("Usable(%d): %d, %d", addr, n, err)
		}
		if err := w.free(addr); err != api.ErrNone {
			w.Fatalf("Free(%d): %d", addr, err)
		}
	}
}

// holds wants these local pages to be just these pages, and no other one to be held.
func (w *twin) holds(pairs ...[2]int) {
	w.Helper()
	var got [][2]int
	for _, v := range w.h.Table().All() {
		got = append(got, [2]int{v, w.h.Table().Find(v)})
	}
	if !slices.Equal(got, pairs) || w.h.Pages() != len(pairs) {
		w.Fatalf("holds %v (%d), wanted %v", got, w.h.Pages(), pairs)
	}
}
