package tenant

import (
	"fmt"
	"slices"
	"strings"
	"testing"

	"garth/api"
	"garth/arena"
	"garth/colour"
	"garth/heap"
	"garth/view"
)

// The kinds, written out as the document has them.
var (
	units = [8]int{16, 32, 48, 64, 96, 128, 192, 256}
	pers  = [8]int{32, 16, 10, 8, 5, 4, 2, 2}
)

const lastSerial = 1<<44 - 1

// unitFor is what n bytes cost; 0, if no block has them.
func unitFor(n int) int {
	if n < 1 || n > 8192 {
		return 0
	}
	for _, unit := range units {
		if n <= unit {
			return unit
		}
	}
	return (n + 511) / 512 * 512
}

// pagesFor is how many pages a quota takes at most.
func pagesFor(quota int) int {
	n := quota / 512
	for kind, unit := range units {
		n += (quota/unit + pers[kind] - 1) / pers[kind]
	}
	return n
}

// bitsOf are those of a handle.
func bitsOf(id, rights, slot, serial int) uint64 {
	return uint64(id) + uint64(rights)*16 + uint64(slot)*128 + uint64(serial)<<20
}

// slot is a handle that is good.
type slot struct{ addr, rights, serial int }

// thing is an object: its bytes, and what its block has.
type thing struct {
	data string
	unit int
}

// plain is a tenant the plain way. It has blocks of a heap in an arena of its own, that was asked just what the document says, in that order; all else it reckons by itself.
type plain struct {
	id, serial, quota, peak int
	window                  []int
	a                       *arena.Arena
	h                       *heap.Heap
	slots                   map[int]slot
	objects                 map[int]thing
}

func (p *plain) charged() int {
	n := 0
	for _, o := range p.objects {
		n += o.unit
	}
	return n
}

func (p *plain) say(a api.Answer) api.Answer {
	a.Charged = p.charged()
	return a
}

func (p *plain) refuse(err api.Errno) api.Answer { return p.say(api.Answer{Err: err}) }

// find is the slot of a handle that is good, and has these rights; -1, if there is none.
func (p *plain) find(h uint64, rights int) int {
	for at, s := range p.slots {
		if bitsOf(p.id, s.rights, at, s.serial) == h && s.rights&rights == rights {
			return at
		}
	}
	return -1
}

// put gives the lowest free slot of those from low up to high a handle.
func (p *plain) put(low, high, addr, rights int) (uint64, api.Errno) {
	if p.serial > lastSerial {
		return 0, api.ErrMany
	}
	for at := low; at < high; at++ {
		if _, there := p.slots[at]; !there {
			p.slots[at] = slot{addr, rights, p.serial}
			p.serial++
			return bitsOf(p.id, rights, at, p.serial-1), api.OK
		}
	}
	return 0, api.ErrMany
}

func (p *plain) take(n int) (int, api.Errno) {
	switch {
	case unitFor(n) == 0:
		return 0, api.ErrSize
	case p.charged()+unitFor(n) > p.quota:
		return 0, api.ErrQuota
	case p.serial > lastSerial:
		return 0, api.ErrMany
	}
	addr, err := p.h.Malloc(n)
	if err != api.OK {
		return 0, api.ErrMany
	}
	return addr, api.OK
}

func (p *plain) own(addr int, data string, n int) api.Answer {
	p.objects[addr] = thing{data + strings.Repeat("\x00", n-len(data)), unitFor(n)}
	h, err := p.put(0, 4096, addr, 7)
	return p.say(api.Answer{Err: err, Handle: h, Addr: addr})
}

func (p *plain) release(addr int) {
	p.h.Free(addr)
	delete(p.objects, addr)
	for at, s := range p.slots {
		if s.addr == addr {
			delete(p.slots, at)
		}
	}
}

func (p *plain) malloc(n int) api.Answer {
	addr, err := p.take(n)
	if err != api.OK {
		return p.refuse(err)
	}
	return p.own(addr, "", n)
}

func (p *plain) calloc(k, n int) api.Answer {
	if k < 1 || n < 1 || k > 8192 || n > 8192 || k*n > 8192 {
		return p.refuse(api.ErrSize)
	}
	return p.malloc(k * n)
}

func (p *plain) free(h uint64) api.Answer {
	at := p.find(h, 4)
	if at < 0 {
		return p.refuse(api.ErrBadHandle)
	}
	p.release(p.slots[at].addr)
	return p.say(api.Answer{})
}

func (p *plain) usable(h uint64) api.Answer {
	at := p.find(h, 0)
	if at < 0 {
		return p.refuse(api.ErrBadHandle)
	}
	return p.say(api.Answer{N: p.objects[p.slots[at].addr].unit})
}

// spans are bytes of an object; it holds no two numbers together that may wrap round.
func (p *plain) spans(o thing, from, n int) bool {
	return from >= 0 && n >= 0 && from <= len(o.data) && n <= len(o.data) && from+n <= len(o.data)
}

func (p *plain) read(h uint64, from, n int) api.Answer {
	at := p.find(h, 1)
	if at < 0 {
		return p.refuse(api.ErrBadHandle)
	}
	addr := p.slots[at].addr
	o := p.objects[addr]
	if !p.spans(o, from, n) {
		return p.refuse(api.ErrRange)
	}
	view.Read(p.a, p.h.Table(), addr+from, n)
	return p.say(api.Answer{Data: o.data[from : from+n]})
}

func (p *plain) write(h uint64, from int, data string) api.Answer {
	at := p.find(h, 2)
	if at < 0 {
		return p.refuse(api.ErrBadHandle)
	}
	addr := p.slots[at].addr
	o := p.objects[addr]
	if !p.spans(o, from, len(data)) {
		return p.refuse(api.ErrRange)
	}
	view.Write(p.a, p.h.Table(), addr+from, data)
	p.objects[addr] = thing{o.data[:from] + data + o.data[from+len(data):], o.unit}
	return p.say(api.Answer{})
}

func (p *plain) restrict(h uint64, rights int) api.Answer {
	at := p.find(h, 0)
	switch {
	case at < 0:
		return p.refuse(api.ErrBadHandle)
	case rights < 1 || rights > 7:
		return p.refuse(api.ErrSize)
	case p.slots[at].rights&rights != rights:
		return p.refuse(api.ErrBadHandle)
	}
	less, err := p.put(4096, 4160, p.slots[at].addr, rights)
	return p.say(api.Answer{Err: err, Handle: less})
}

func (p *plain) realloc(h uint64, n int) api.Answer {
	at := p.find(h, 4)
	switch {
	case at < 0:
		return p.refuse(api.ErrBadHandle)
	case unitFor(n) == 0:
		return p.refuse(api.ErrSize)
	}
	addr := p.slots[at].addr
	o := p.objects[addr]
	if unitFor(n) <= o.unit {
		data := o.data + strings.Repeat("\x00", max(n-len(o.data), 0))
		if n < len(o.data) {
			view.Zero(p.a, p.h.Table(), addr+n, len(o.data)-n)
		}
		p.objects[addr] = thing{data[:n], o.unit}
		return p.say(api.Answer{Handle: h, Addr: addr})
	}
	fresh, err := p.take(n)
	if err != api.OK {
		return p.refuse(err)
	}
	view.Copy(p.a, p.h.Table(), fresh, addr, len(o.data))
	p.release(addr)
	return p.own(fresh, o.data, n)
}

func (p *plain) newPeak(quota int) int {
	if len(p.objects) == 0 {
		return quota
	}
	return max(quota, p.peak)
}

func (p *plain) fits(quota, pages int) api.Errno {
	switch {
	case quota < 1 || quota > 65536:
		return api.ErrSize
	case p.charged() > quota:
		return api.ErrQuota
	case pagesFor(p.newPeak(quota)) > pages:
		return api.ErrFit
	}
	return api.OK
}

// land is an arena and its map, the same for plain tenants, and all tenants that use them.
type land struct {
	*testing.T
	a, b          *arena.Arena
	m, n          *colour.Map
	each, colours int
	all           []*twin
}

// twin is a tenant, and the plain one that it is held against.
type twin struct {
	*land
	x *Tenant
	p *plain
	// All handles that it was ever given.
	given []uint64
}

// lie makes an arena of so many pages, with a map of so many colours.
func lie(t *testing.T, pages, colours int) *land {
	t.Helper()
	l := &land{T: t, each: pages / colours, colours: colours}
	l.a, l.m = raw(t, pages, colours)
	l.b, l.n = raw(t, pages, colours)
	return l
}

func raw(t *testing.T, pages, colours int) (*arena.Arena, *colour.Map) {
	t.Helper()
	a, err := arena.New(pages * 512)
	if err != api.OK {
		t.Fatalf("no arena of %d pages: %d", pages, err)
	}
	m, err := colour.New(api.Config{Pages: pages, Colours: colours})
	if err != api.OK {
		t.Fatalf("no map of %d pages, %d colours: %d", pages, colours, err)
	}
	return a, m
}

// settle makes one more tenant there.
func (l *land) settle(id, serial, quota int, window ...int) *twin {
	l.Helper()
	x, err := New(l.a, l.m, id, serial, quota, window...)
	if err != api.OK || x == nil {
		l.Fatalf("New(%d, %d, %d, %v): %v, %d", id, serial, quota, window, x, err)
	}
	h, _ := heap.New(l.b, l.n, window...)
	p := &plain{id: id, serial: serial, quota: quota, peak: quota, window: slices.Clone(window), a: l.b, h: h, slots: map[int]slot{}, objects: map[int]thing{}}
	w := &twin{land: l, x: x, p: p}
	l.all = append(l.all, w)
	l.same("New")
	return w
}

// lay makes a tenant of one colour, with an arena of its own that has just as many pages as the quota takes.
func lay(t *testing.T, quota int) *twin {
	t.Helper()
	return lie(t, pagesFor(quota), 1).settle(3, 1, quota, 0)
}

// pagesOf are how many the colours of a window have.
func (l *land) pagesOf(window []int) int {
	n := 0
	for c := range l.colours {
		if slices.Contains(window, c) {
			n += l.each
		}
	}
	return n
}

// same holds against each other all that can be told without a change, of all tenants, and what was touched since the last time.
func (l *land) same(what string) {
	l.Helper()
	if got, want := l.a.Touched(), l.b.Touched(); !slices.Equal(got, want) {
		l.Fatalf("%s: touched %v, wanted %v", what, got, want)
	}
	got, _ := l.a.Read(0, l.a.Size())
	want, _ := l.b.Read(0, l.b.Size())
	if got != want {
		l.Fatalf("%s: the arena's bytes are others", what)
	}
	for page := range l.each * l.colours {
		if got, want := l.m.Taken(page), l.n.Taken(page); got != want {
			l.Fatalf("%s: the page %d: taken %v", what, page, got)
		}
	}
	for i, w := range l.all {
		w.tells(fmt.Sprintf("%s, tenant %d", what, i))
	}
	l.a.Forget()
	l.b.Forget()
}

// tells holds against each other what both tell of themselves.
func (w *twin) tells(what string) {
	w.Helper()
	if got := []int{w.x.Charged(), w.x.Quota(), w.x.Serial()}; !slices.Equal(got, []int{w.p.charged(), w.p.quota, w.p.serial}) {
		w.Fatalf("%s: charged, quota, serial %v, wanted %d %d %d", what, got, w.p.charged(), w.p.quota, w.p.serial)
	}
	if w.x.Charged() > w.x.Quota() {
		w.Fatalf("%s: charged %d, quota %d", what, w.x.Charged(), w.x.Quota())
	}
	var blocks []api.Block
	for addr, o := range w.p.objects {
		blocks = append(blocks, api.Block{Addr: addr, Size: len(o.data), Usable: o.unit})
	}
	slices.SortFunc(blocks, func(a, b api.Block) int { return a.Addr - b.Addr })
	if got := w.x.Blocks(); !slices.Equal(got, blocks) {
		w.Fatalf("%s: Blocks %v, wanted %v", what, got, blocks)
	}
	w.heaps(what)
	for addr, o := range w.p.objects {
		got, err := view.Read(w.a, w.x.Heap().Table(), addr, o.unit)
		if want := o.data + strings.Repeat("\x00", o.unit-len(o.data)); got != want || err != api.OK {
			w.Fatalf("%s: the block at %d has other bytes: %d", what, addr, err)
		}
	}
	w.handles(what)
}

// heaps holds both heaps against each other.
func (w *twin) heaps(what string) {
	w.Helper()
	h, p := w.x.Heap(), w.p.h
	if !slices.Equal(h.Window(), p.Window()) || !slices.Equal(p.Window(), w.p.window) {
		w.Fatalf("%s: the window is %v, wanted %v", what, h.Window(), w.p.window)
	}
	if !slices.Equal(h.Blocks(), p.Blocks()) || h.Pages() != p.Pages() || !slices.Equal(h.Table().All(), p.Table().All()) {
		w.Fatalf("%s: the heap has %v in %v, wanted %v in %v", what, h.Blocks(), h.Table().All(), p.Blocks(), p.Table().All())
	}
	for _, v := range p.Table().All() {
		if got, want := h.Table().Find(v), p.Table().Find(v); got != want {
			w.Fatalf("%s: the local page %d is %d, wanted %d", what, v, got, want)
		}
	}
}

// handles asks which of all that were given are good.
func (w *twin) handles(what string) {
	w.Helper()
	good := map[uint64]int{}
	for at, s := range w.p.slots {
		good[bitsOf(w.p.id, s.rights, at, s.serial)] = w.p.objects[s.addr].unit
	}
	for _, h := range w.given {
		want := api.Answer{N: good[h], Charged: w.p.charged()}
		if good[h] == 0 {
			want.Err = api.ErrBadHandle
		}
		if got := w.x.Usable(h); got != want {
			w.Fatalf("%s: Usable(%d): %v, wanted %v", what, h, got, want)
		}
		delete(good, h)
	}
	if len(good) > 0 {
		w.Fatalf("%s: handles that weren't given are good: %v", what, good)
	}
}

// held wants both answers to be the same, and all that can be told.
func (w *twin) held(what string, got, want api.Answer) api.Answer {
	w.Helper()
	if got != want {
		w.Fatalf("%s: %+v, wanted %+v", what, got, want)
	}
	if got.Handle != 0 && !slices.Contains(w.given, got.Handle) {
		w.given = append(w.given, got.Handle)
	}
	w.same(what)
	return got
}

func (w *twin) malloc(n int) api.Answer {
	w.Helper()
	return w.held(fmt.Sprintf("Malloc(%d)", n), w.x.Malloc(n), w.p.malloc(n))
}

func (w *twin) calloc(k, n int) api.Answer {
	w.Helper()
	return w.held(fmt.Sprintf("Calloc(%d, %d)", k, n), w.x.Calloc(k, n), w.p.calloc(k, n))
}

func (w *twin) free(h uint64) api.Answer {
	w.Helper()
	return w.held(fmt.Sprintf("Free(%d)", h), w.x.Free(h), w.p.free(h))
}

func (w *twin) realloc(h uint64, n int) api.Answer {
	w.Helper()
	return w.held(fmt.Sprintf("Realloc(%d, %d)", h, n), w.x.Realloc(h, n), w.p.realloc(h, n))
}

func (w *twin) usable(h uint64) api.Answer {
	w.Helper()
	return w.held(fmt.Sprintf("Usable(%d)", h), w.x.Usable(h), w.p.usable(h))
}

func (w *twin) read(h uint64, from, n int) api.Answer {
	w.Helper()
	return w.held(fmt.Sprintf("Read(%d, %d, %d)", h, from, n), w.x.Read(h, from, n), w.p.read(h, from, n))
}

func (w *twin) write(h uint64, from int, data string) api.Answer {
	w.Helper()
	return w.held(fmt.Sprintf("Write(%d, %d, %d bytes)", h, from, len(data)), w.x.Write(h, from, data), w.p.write(h, from, data))
}

func (w *twin) restrict(h uint64, rights int) api.Answer {
	w.Helper()
	return w.held(fmt.Sprintf("Restrict(%d, %d)", h, rights), w.x.Restrict(h, rights), w.p.restrict(h, rights))
}

func (w *twin) fits(quota, pages int) api.Errno {
	w.Helper()
	got, want := w.x.Fits(quota, pages), w.p.fits(quota, pages)
	if got != want {
		w.Fatalf("Fits(%d, %d): %d, wanted %d", quota, pages, got, want)
	}
	w.same(fmt.Sprintf("Fits(%d, %d)", quota, pages))
	return got
}

func (w *twin) resize(quota int, window ...int) api.Errno {
	w.Helper()
	want := w.p.fits(quota, w.pagesOf(window))
	if want == api.OK {
		want = w.p.h.Move(window...)
	}
	if want == api.OK {
		w.p.peak = w.p.newPeak(quota)
		w.p.quota, w.p.window = quota, slices.Clone(window)
	}
	if got := w.x.Resize(quota, window...); got != want {
		w.Fatalf("Resize(%d, %v): %d, wanted %d", quota, window, got, want)
	}
	w.same(fmt.Sprintf("Resize(%d, %v)", quota, window))
	return want
}

func (w *twin) drop() {
	w.Helper()
	w.x.Drop()
	w.p.h.Drop()
	w.p.slots, w.p.objects = map[int]slot{}, map[int]thing{}
	w.same("Drop")
}

// has wants a block for n bytes, and answers its handle.
func (w *twin) has(n int) uint64 {
	w.Helper()
	r := w.malloc(n)
	if r.Err != api.OK || r.Handle == 0 || r.Addr == 0 {
		w.Fatalf("Malloc(%d): %+v", n, r)
	}
	return r.Handle
}

// good wants an answer without an error, and answers its handle.
func (w *twin) good(r api.Answer) uint64 {
	w.Helper()
	if r.Err != api.OK {
		w.Fatalf("refused: %+v", r)
	}
	return r.Handle
}

// bad wants an answer that is this error alone, and what is charged.
func (w *twin) bad(r api.Answer, err api.Errno) {
	w.Helper()
	if r != (api.Answer{Err: err, Charged: w.x.Charged()}) {
		w.Fatalf("%+v, wanted the error %d", r, err)
	}
}

// charged wants just that to be charged.
func (w *twin) charged(n int) {
	w.Helper()
	if w.x.Charged() != n {
		w.Fatalf("charged %d, wanted %d", w.x.Charged(), n)
	}
}

// noise are n bytes, none of them 0, so that a byte that is made 0 shows.
func noise(n, seed int) string {
	out := make([]byte, n)
	for i := range out {
		out[i] = byte((i*7+seed*31)%255 + 1)
	}
	return string(out)
}

// filled has a block for n bytes that are noise.
func (w *twin) filled(n, seed int) uint64 {
	w.Helper()
	h := w.has(n)
	w.good(w.write(h, 0, noise(n, seed)))
	return h
}

// reads wants an object to be just these bytes.
func (w *twin) reads(h uint64, data string) {
	w.Helper()
	if r := w.read(h, 0, len(data)); r.Err != api.OK || r.Data != data {
		w.Fatalf("read %d %q, wanted %q", r.Err, r.Data, data)
	}
	w.bad(w.read(h, 0, len(data)+1), api.ErrRange)
}
