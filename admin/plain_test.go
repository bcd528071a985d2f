package admin

import (
	"fmt"
	"math"
	"math/rand"
	"slices"
	"strings"
	"testing"

	"garth/api"
	"garth/arena"
	"garth/colour"
	"garth/tenant"
)

// The kinds of small blocks, written out as the document has them.
var (
	units = [8]int{16, 32, 48, 64, 96, 128, 192, 256}
	pers  = [8]int{32, 16, 10, 8, 5, 4, 2, 2}
)

// nobodies are numbers that are no tenant.
var nobodies = []int{-1, 8, -2, 9, -8, 16, 255, 1 << 32, 1<<32 + 1, -1 << 32, math.MinInt, math.MinInt + 1, math.MaxInt}

// far are numbers that are neither so many colours nor a quota.
var far = []int{0, -1, -2, -16, math.MinInt, math.MinInt + 1, math.MaxInt, math.MaxInt - 1, 1 << 32, 1<<32 + 1, 1 << 62, -1 << 62}

// unitFor is what n bytes cost; 0, if no block has them.
func unitFor(n int) int {
	if n < 1 || n > 8192 {
		return 0
	}
	for _, unit := range units {
		if n <= unit {
			return unit
		}
	}
	return (n + 511) / 512 * 512
}

// pagesFor is how many pages a quota takes at most.
func pagesFor(quota int) int {
	n := quota / 512
	for kind, unit := range units {
		n += (quota/unit + pers[kind] - 1) / pers[kind]
	}
	return n
}

// bitsOf are those of a handle of an object.
func bitsOf(id, slot, serial int) uint64 {
	return uint64(id) + 7*16 + uint64(slot)*128 + uint64(serial)<<20
}

// noise are n bytes, none of them 0, so that a byte that is made 0 shows.
func noise(n, seed int) string {
	out := make([]byte, n)
	for i := range out {
		out[i] = byte((i*7+seed*31)%255 + 1)
	}
	return string(out)
}

func noughts(n int) string { return strings.Repeat("\x00", n) }

// object is what a tenant had asked for, by the handle that it came with.
type object struct {
	data string
	unit int
}

// guest is a tenant the plain way. Its blocks are those of a tenant in an arena beside, that was asked just what the document says; what is charged, the peak and all bytes it reckons by itself.
type guest struct {
	x           *tenant.Tenant
	quota, peak int
	objects     map[uint64]object
}

func (g *guest) charged() int {
	n := 0
	for _, o := range g.objects {
		n += o.unit
	}
	return n
}

// town is an administrator, and beside it a plain one: whose each colour is, the numbers' serials, and the guests.
type town struct {
	*testing.T
	a       *Admin
	each    int
	owners  []int
	serials [8]int
	guests  [8]*guest
	b       *arena.Arena
	m       *colour.Map
	// All handles that were ever given, and tenants that are gone.
	given []uint64
	gone  []*tenant.Tenant
}

// found makes a town in which nobody is there.
func found(t *testing.T, pages, colours int) *town {
	t.Helper()
	c := api.Config{Pages: pages, Colours: colours}
	a, err := New(c)
	if err != api.OK || a == nil {
		t.Fatalf("New(%v): %v, %d", c, a, err)
	}
	w := &town{T: t, a: a, each: pages / colours, owners: make([]int, colours)}
	for i := range w.owners {
		w.owners[i] = -1
	}
	for id := range w.serials {
		w.serials[id] = 1
	}
	w.b, _ = arena.New(pages * 512)
	w.m, _ = colour.New(c)
	return w
}

// windowOf are the colours of an owner, rising; those that nobody has are of -1.
func (w *town) windowOf(id int) []int {
	var out []int
	for c, owner := range w.owners {
		if owner == id {
			out = append(out, c)
		}
	}
	return out
}

func (w *town) turn(colours []int, id int) {
	for _, c := range colours {
		w.owners[c] = id
	}
}

// sizes wants colours and a quota that may be.
func (w *town) sizes(colours, quota int) bool {
	return colours >= 1 && colours <= len(w.owners) && quota >= 1 && quota <= 65536
}

// wantCreate is what Create has to answer.
func (w *town) wantCreate(id, colours, quota int) api.Errno {
	switch {
	case id < 0 || id > 7:
		return api.ErrArg
	case w.guests[id] != nil:
		return api.ErrThere
	case !w.sizes(colours, quota):
		return api.ErrSize
	case pagesFor(quota) > colours*w.each:
		return api.ErrFit
	case len(w.windowOf(-1)) < colours:
		return api.ErrColours
	}
	return api.OK
}

// wantResize is what Resize has to answer, and the peak behind it.
func (w *town) wantResize(id, colours, quota int) (api.Errno, int) {
	if id < 0 || id > 7 {
		return api.ErrArg, 0
	}
	g := w.guests[id]
	switch {
	case g == nil:
		return api.ErrNoTenant, 0
	case !w.sizes(colours, quota):
		return api.ErrSize, 0
	case g.charged() > quota:
		return api.ErrQuota, 0
	}
	peak := quota
	if len(g.objects) > 0 {
		peak = max(quota, g.peak)
	}
	switch {
	case pagesFor(peak) > colours*w.each:
		return api.ErrFit, 0
	case colours > len(w.windowOf(id))+len(w.windowOf(-1)):
		return api.ErrColours, 0
	}
	return api.OK, peak
}

// create does it on either side, holds what both came to against each other, and answers the error.
func (w *town) create(id, colours, quota int) api.Errno {
	w.Helper()
	what := fmt.Sprintf("Create(%d, %d, %d)", id, colours, quota)
	want := w.wantCreate(id, colours, quota)
	if want == api.OK {
		w.turn(w.windowOf(-1)[:colours], id)
		x, err := tenant.New(w.b, w.m, id, w.serials[id], quota, w.windowOf(id)...)
		if err != api.OK {
			w.Fatalf("%s: no tenant beside: %d", what, err)
		}
		w.guests[id] = &guest{x: x, quota: quota, peak: quota, objects: map[uint64]object{}}
	}
	if got := w.a.Create(id, colours, quota); got != want {
		w.Fatalf("%s: %d, wanted %d", what, got, want)
	}
	w.same(what)
	return want
}

func (w *town) resize(id, colours, quota int) api.Errno {
	w.Helper()
	what := fmt.Sprintf("Resize(%d, %d, %d)", id, colours, quota)
	want, peak := w.wantResize(id, colours, quota)
	if want == api.OK {
		mine := w.windowOf(id)
		if len(mine) < colours {
			w.turn(w.windowOf(-1)[:colours-len(mine)], id)
		} else {
			w.turn(mine[colours:], -1)
		}
		g := w.guests[id]
		if err := g.x.Resize(quota, w.windowOf(id)...); err != api.OK {
			w.Fatalf("%s: refused beside: %d", what, err)
		}
		g.quota, g.peak = quota, peak
	}
	if got := w.a.Resize(id, colours, quota); got != want {
		w.Fatalf("%s: %d, wanted %d", what, got, want)
	}
	w.same(what)
	return want
}

func (w *town) destroy(id int) api.Errno {
	w.Helper()
	what := fmt.Sprintf("Destroy(%d)", id)
	want := api.OK
	switch {
	case id < 0 || id > 7:
		want = api.ErrArg
	case w.guests[id] == nil:
		want = api.ErrNoTenant
	default:
		w.guests[id].x.Drop()
		w.serials[id] = w.guests[id].x.Serial()
		w.guests[id] = nil
		w.turn(w.windowOf(id), -1)
		w.gone = append(w.gone, w.a.Tenant(id))
	}
	if got := w.a.Destroy(id); got != want {
		w.Fatalf("%s: %d, wanted %d", what, got, want)
	}
	w.same(what)
	return want
}

// held wants both answers of a tenant to be the same, and all that can be told.
func (w *town) held(what string, got, want api.Answer) api.Answer {
	w.Helper()
	if got != want {
		w.Fatalf("%s: %+v, wanted %+v", what, got, want)
	}
	if got.Handle != 0 && !slices.Contains(w.given, got.Handle) {
		w.given = append(w.given, got.Handle)
	}
	w.same(what)
	return got
}

func (w *town) malloc(id, n int) api.Answer {
	w.Helper()
	want := w.guests[id].x.Malloc(n)
	if want.Err == api.OK {
		w.guests[id].objects[want.Handle] = object{noughts(n), unitFor(n)}
	}
	return w.held(fmt.Sprintf("Malloc(%d) of %d", n, id), w.a.Tenant(id).Malloc(n), want)
}

func (w *town) free(id int, h uint64) api.Answer {
	w.Helper()
	want := w.guests[id].x.Free(h)
	if want.Err == api.OK {
		delete(w.guests[id].objects, h)
	}
	return w.held(fmt.Sprintf("Free(%d) of %d", h, id), w.a.Tenant(id).Free(h), want)
}

func (w *town) realloc(id int, h uint64, n int) api.Answer {
	w.Helper()
	want := w.guests[id].x.Realloc(h, n)
	if o := w.guests[id].objects[h]; want.Err == api.OK {
		delete(w.guests[id].objects, h)
		data := (o.data + noughts(max(n-len(o.data), 0)))[:n]
		w.guests[id].objects[want.Handle] = object{data, max(o.unit, unitFor(n))}
	}
	return w.held(fmt.Sprintf("Realloc(%d, %d) of %d", h, n, id), w.a.Tenant(id).Realloc(h, n), want)
}

func (w *town) write(id int, h uint64, from int, data string) api.Answer {
	w.Helper()
	want := w.guests[id].x.Write(h, from, data)
	if o := w.guests[id].objects[h]; want.Err == api.OK {
		w.guests[id].objects[h] = object{o.data[:from] + data + o.data[from+len(data):], o.unit}
	}
	return w.held(fmt.Sprintf("Write(%d, %d, %d bytes) of %d", h, from, len(data), id), w.a.Tenant(id).Write(h, from, data), want)
}

// filled has an object of n bytes that are noise.
func (w *town) filled(id, n, seed int) uint64 {
	w.Helper()
	r := w.malloc(id, n)
	if r.Err != api.OK {
		w.Fatalf("Malloc(%d) of %d: %+v", n, id, r)
	}
	w.write(id, r.Handle, 0, noise(n, seed))
	return r.Handle
}

// same holds against each other all that can be told without a change, and what was touched since the last time.
func (w *town) same(what string) {
	w.Helper()
	if got, want := w.a.Arena().Touched(), w.b.Touched(); !slices.Equal(got, want) {
		w.Fatalf("%s: touched %v, wanted %v", what, got, want)
	}
	got, _ := w.a.Arena().Read(0, w.a.Arena().Size())
	want, _ := w.b.Read(0, w.b.Size())
	if got != want {
		w.Fatalf("%s: the arena's bytes are others", what)
	}
	if got, want := w.a.Free(), len(w.windowOf(-1)); got != want {
		w.Fatalf("%s: Free %d, wanted %d", what, got, want)
	}
	for id := range 8 {
		w.tells(what, id)
	}
	for _, id := range nobodies {
		if x, window, serial := w.a.Tenant(id), w.a.Window(id), w.a.Serial(id); x != nil || len(window) != 0 || serial != 0 {
			w.Fatalf("%s: of %d: %v, %v, %d", what, id, x, window, serial)
		}
	}
	w.holders(what, got)
	w.a.Arena().Forget()
	w.b.Forget()
}

// tells holds what is told of a number against the plain one.
func (w *town) tells(what string, id int) {
	w.Helper()
	x, g := w.a.Tenant(id), w.guests[id]
	for range 2 {
		window := w.a.Window(id)
		if !slices.Equal(window, w.windowOf(id)) {
			w.Fatalf("%s: the window of %d is %v, wanted %v", what, id, window, w.windowOf(id))
		}
		// What was answered is nobody's any more: writing into it is nothing to the next one that asks.
		spoil(window)
	}
	if (x == nil) != (g == nil) {
		w.Fatalf("%s: %d is there: %v", what, id, x != nil)
	}
	if g == nil {
		if got := w.a.Serial(id); got != w.serials[id] {
			w.Fatalf("%s: the serial of %d is %d, wanted %d", what, id, got, w.serials[id])
		}
		return
	}
	if got := []int{x.Charged(), x.Quota(), x.Serial(), w.a.Serial(id)}; !slices.Equal(got, []int{g.charged(), g.quota, g.x.Serial(), g.x.Serial()}) {
		w.Fatalf("%s: of %d: charged, quota, serials %v, wanted %d %d %d", what, id, got, g.charged(), g.quota, g.x.Serial())
	}
	if !slices.Equal(x.Heap().Window(), w.windowOf(id)) || !slices.Equal(x.Blocks(), g.x.Blocks()) {
		w.Fatalf("%s: of %d: the heap has the window %v, and %v, wanted %v, %v", what, id, x.Heap().Window(), x.Blocks(), w.windowOf(id), g.x.Blocks())
	}
	w.handles(what, id)
}

// spoil writes over all that a slice has room for.
func spoil(s []int) {
	s = s[:cap(s)]
	for i := range s {
		s[i] = 7
	}
}

// handles asks which handles of all that were given are good for a tenant, and what their objects are.
func (w *town) handles(what string, id int) {
	w.Helper()
	x, g := w.a.Tenant(id), w.guests[id]
	for _, h := range w.given {
		if _, there := g.objects[h]; !there && x.Usable(h) != (api.Answer{Err: api.ErrBadHandle, Charged: g.charged()}) {
			w.Fatalf("%s: the handle %d is good for %d", what, h, id)
		}
	}
	for h, o := range g.objects {
		if got := x.Usable(h); got != (api.Answer{N: o.unit, Charged: g.charged()}) {
			w.Fatalf("%s: Usable(%d) of %d: %+v, wanted %d", what, h, id, got, o.unit)
		}
		if got := x.Read(h, 0, len(o.data)); got != (api.Answer{Data: o.data, Charged: g.charged()}) {
			w.Fatalf("%s: the bytes of %d of %d are others: %d", what, h, id, got.Err)
		}
	}
}

// heldBy are the arena's pages that a tenant holds, rising.
func heldBy(x *tenant.Tenant) []int {
	var out []int
	for _, v := range x.Heap().Table().All() {
		out = append(out, x.Heap().Table().Find(v))
	}
	slices.Sort(out)
	return out
}

// holders goes over all pages: each is held by one tenant at most, is of a colour of its, and is 0, if nobody holds it.
func (w *town) holders(what, bytes string) {
	w.Helper()
	held := map[int]int{}
	for id, g := range w.guests {
		if g == nil {
			continue
		}
		pages := heldBy(w.a.Tenant(id))
		if !slices.Equal(pages, heldBy(g.x)) {
			w.Fatalf("%s: %d holds %v, wanted %v", what, id, pages, heldBy(g.x))
		}
		for _, page := range pages {
			if other, there := held[page]; there {
				w.Fatalf("%s: the page %d is held by %d and %d", what, page, other, id)
			}
			held[page] = id
			if owner := w.owners[page%len(w.owners)]; owner != id {
				w.Fatalf("%s: %d holds the page %d, whose colour is of %d", what, id, page, owner)
			}
		}
	}
	for page := range len(bytes) / 512 {
		if _, there := held[page]; !there && bytes[512*page:512*page+512] != noughts(512) {
			w.Fatalf("%s: nobody holds the page %d, and it isn't 0", what, page)
		}
	}
}

// reads wants an object to be just these bytes.
func (w *town) reads(id int, h uint64, data string) {
	w.Helper()
	if got := w.a.Tenant(id).Read(h, 0, len(data)); got.Err != api.OK || got.Data != data {
		w.Fatalf("the bytes of %d of %d are others: %d", h, id, got.Err)
	}
	if got := w.a.Tenant(id).Read(h, 0, len(data)+1); got.Err != api.ErrRange {
		w.Fatalf("%d of %d has more bytes: %d", h, id, got.Err)
	}
	w.a.Arena().Forget()
}

// ok wants no error.
func (w *town) ok(err api.Errno) {
	w.Helper()
	w.is(err, api.OK)
}

func (w *town) is(err, want api.Errno) {
	w.Helper()
	if err != want {
		w.Fatalf("%d, wanted %d", err, want)
	}
}

// someSize is a size of any kind; small ones come more often.
func someSize(r *rand.Rand) int {
	switch r.Intn(8) {
	case 0:
		return 1 + r.Intn(8192)
	case 1, 2:
		return 1 + r.Intn(1500)
	}
	return 1 + r.Intn(256)
}
