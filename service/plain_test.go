package service

import (
	"fmt"
	"math"
	"math/rand"
	"slices"
	"strings"
	"testing"

	"garth/admin"
	"garth/api"
)

// nobodies are numbers that are no tenant.
var nobodies = []int{-1, 8, -2, 9, -8, 16, 255, 1 << 32, 1<<32 + 1, -1 << 32, math.MinInt, math.MinInt + 1, math.MaxInt}

// noKinds are numbers that are no kind of operation.
var noKinds = []int{0, 12, -1, 13, 15, 16, -4, 255, 1<<32 + 4, -1 << 32, math.MinInt, math.MinInt + 4, math.MaxInt}

// far are numbers that are neither so many colours, nor a quota, a size, a place in an object or rights.
var far = []int{-1, -2, -16, math.MinInt, math.MinInt + 1, math.MaxInt, math.MaxInt - 1, 1 << 32, 1<<32 + 1, 1 << 62, -1 << 62}

// noise are n bytes, none of them 0, so that a byte that is made 0 shows.
func noise(n, seed int) string {
	out := make([]byte, n)
	for i := range out {
		out[i] = byte((i*7+seed*31)%255 + 1)
	}
	return string(out)
}

func noughts(n int) string { return strings.Repeat("\x00", n) }

// emptyPage is a page's bytes, all 0.
var emptyPage = noughts(512)

// The operations, written short.

func create(id, colours, quota int) api.Op {
	return api.Op{Kind: api.OpCreate, Tenant: id, N: quota, M: colours}
}

func resize(id, colours, quota int) api.Op {
	return api.Op{Kind: api.OpResize, Tenant: id, N: quota, M: colours}
}

func destroy(id int) api.Op { return api.Op{Kind: api.OpDestroy, Tenant: id} }

func malloc(id, n int) api.Op { return api.Op{Kind: api.OpMalloc, Tenant: id, N: n} }

func calloc(id, k, n int) api.Op { return api.Op{Kind: api.OpCalloc, Tenant: id, N: k, M: n} }

func free(id int, h uint64) api.Op { return api.Op{Kind: api.OpFree, Tenant: id, Handle: h} }

func realloc(id int, h uint64, n int) api.Op {
	return api.Op{Kind: api.OpRealloc, Tenant: id, Handle: h, N: n}
}

func usable(id int, h uint64) api.Op { return api.Op{Kind: api.OpUsable, Tenant: id, Handle: h} }

func read(id int, h uint64, from, n int) api.Op {
	return api.Op{Kind: api.OpRead, Tenant: id, Handle: h, N: from, M: n}
}

func write(id int, h uint64, from int, data string) api.Op {
	return api.Op{Kind: api.OpWrite, Tenant: id, Handle: h, N: from, Data: data}
}

func restrict(id int, h uint64, rights int) api.Op {
	return api.Op{Kind: api.OpRestrict, Tenant: id, Handle: h, N: rights}
}

// mayBe is whether it is an operation.
func mayBe(o api.Op) bool {
	most := 0
	if o.Kind == 10 {
		most = 8192
	}
	return o.Kind >= 1 && o.Kind <= 11 && o.Tenant >= 0 && o.Tenant <= 7 && len(o.Data) <= most
}

// gift is a handle that was given to a tenant.
type gift struct {
	id     int
	handle uint64
}

// house is a service, and beside it an administrator and its tenants, asked one by one what the document says.
type house struct {
	*testing.T
	c      api.Config
	s      *Service
	beside *admin.Admin
	// What the last operation has to have touched.
	touched []api.Span
	// What was told behind it.
	last seen
	// All that was done, what was refused, too.
	ops   []api.Op
	gifts []gift
}

// built makes a house in which nobody is there.
func built(t *testing.T, pages, colours int) *house {
	t.Helper()
	c := api.Config{Pages: pages, Colours: colours}
	s, err := New(c)
	if err != api.OK || s == nil {
		t.Fatalf("New(%v): %v, %d", c, s, err)
	}
	beside, err := admin.New(c)
	if err != api.OK {
		t.Fatalf("%v beside: %d", c, err)
	}
	h := &house{T: t, c: c, s: s, beside: beside}
	h.same("New")
	return h
}

// wanted is the answer that an operation has to have; what is beside has done it then.
func (h *house) wanted(o api.Op) api.Answer {
	h.beside.Arena().Forget()
	r := h.asked(o)
	h.touched = h.beside.Arena().Touched()
	return r
}

func (h *house) asked(o api.Op) api.Answer {
	if !mayBe(o) {
		return api.Answer{Err: api.ErrBadOp}
	}
	var r api.Answer
	who := h.beside.Tenant(o.Tenant)
	switch {
	case o.Kind == api.OpCreate:
		r.Err = h.beside.Create(o.Tenant, o.M, o.N)
	case o.Kind == api.OpResize:
		r.Err = h.beside.Resize(o.Tenant, o.M, o.N)
	case o.Kind == api.OpDestroy:
		r.Err = h.beside.Destroy(o.Tenant)
	case who == nil:
		return api.Answer{Err: api.ErrNoTenant}
	case o.Kind == api.OpMalloc:
		r = who.Malloc(o.N)
	case o.Kind == api.OpCalloc:
		r = who.Calloc(o.N, o.M)
	case o.Kind == api.OpFree:
		r = who.Free(o.Handle)
	case o.Kind == api.OpRealloc:
		r = who.Realloc(o.Handle, o.N)
	case o.Kind == api.OpUsable:
		r = who.Usable(o.Handle)
	case o.Kind == api.OpRead:
		r = who.Read(o.Handle, o.N, o.M)
	case o.Kind == api.OpWrite:
		r = who.Write(o.Handle, o.N, o.Data)
	case o.Kind == api.OpRestrict:
		r = who.Restrict(o.Handle, o.N)
	}
	r.Charged = 0
	for _, b := range h.beside.Tenant(o.Tenant).Blocks() {
		r.Charged += b.Usable
	}
	return r
}

// do does it on either side, and holds against each other what both came to, and against the promises what it touched.
func (h *house) do(o api.Op) api.Answer {
	h.Helper()
	what := short(o)
	ahead := h.last
	want := h.wanted(o)
	got := h.s.Do(o)
	if got != want {
		h.Fatalf("%s: %+v, wanted %+v", what, got, want)
	}
	h.ops = append(h.ops, o)
	if got.Handle != 0 {
		h.gifts = append(h.gifts, gift{o.Tenant, got.Handle})
	}
	h.same(what)
	h.confined(what, o, got, ahead, h.last)
	return got
}

// done wants it to be done.
func (h *house) done(o api.Op) api.Answer {
	h.Helper()
	r := h.do(o)
	if r.Err != api.OK {
		h.Fatalf("%s: %+v", short(o), r)
	}
	return r
}

// says wants just this answer.
func (h *house) says(o api.Op, want api.Answer) {
	h.Helper()
	if got := h.do(o); got != want {
		h.Fatalf("%s: %+v, wanted %+v", short(o), got, want)
	}
}

// filled has an object of n bytes that are noise.
func (h *house) filled(id, n, seed int) uint64 {
	h.Helper()
	r := h.done(malloc(id, n))
	h.done(write(id, r.Handle, 0, noise(n, seed)))
	return r.Handle
}

// copied is a house of a Copy; what is beside that one is made anew, by all that was done.
func (h *house) copied() *house {
	h.Helper()
	s := h.s.Copy()
	if s == nil || s == h.s {
		h.Fatal("no Copy, or the same")
	}
	beside, _ := admin.New(h.c)
	other := &house{T: h.T, c: h.c, s: s, beside: beside}
	for _, o := range h.ops {
		other.wanted(o)
	}
	other.ops, other.gifts = slices.Clone(h.ops), slices.Clone(h.gifts)
	other.same("Copy")
	h.same("Copy of it")
	return other
}

// short tells an operation without its bytes.
func short(o api.Op) string {
	return fmt.Sprintf("kind %d of %d: N %d, M %d, handle %d, %d bytes", o.Kind, o.Tenant, o.N, o.M, o.Handle, len(o.Data))
}

// told is all that a service tells of a number.
type told struct {
	live           bool
	charged, quota int
	blocks         []api.Block
	pages, window  []int
}

func (x told) equal(y told) bool {
	return x.live == y.live && x.charged == y.charged && x.quota == y.quota &&
		slices.Equal(x.blocks, y.blocks) && slices.Equal(x.pages, y.pages) && slices.Equal(x.window, y.window)
}

// seen is all that a service tells at a time, but for what the last operation touched.
type seen struct {
	of    [8]told
	free  int
	bytes string
}

func (x seen) equal(y seen) bool {
	for id := range x.of {
		if !x.of[id].equal(y.of[id]) {
			return false
		}
	}
	return x.free == y.free && x.bytes == y.bytes
}

func tells(s *Service, id int) told {
	return told{s.Live(id), s.Charged(id), s.Quota(id), s.Blocks(id), s.Pages(id), s.Window(id)}
}

// plain is what has to be told of a number.
func (h *house) plain(id int) told {
	who := h.beside.Tenant(id)
	if who == nil {
		return told{}
	}
	x := told{live: true, quota: who.Quota(), blocks: who.Blocks(), window: h.beside.Window(id)}
	for _, b := range x.blocks {
		x.charged += b.Usable
	}
	held := who.Heap().Table()
	for page := range h.c.Pages {
		if held.Holder(page) >= 0 {
			x.pages = append(x.pages, page)
		}
	}
	return x
}

// same holds against each other all that can be told; and that again, since nothing that is asked may change what is asked next.
func (h *house) same(what string) {
	h.Helper()
	var want seen
	for id := range want.of {
		want.of[id] = h.plain(id)
	}
	want.free = h.beside.Free()
	want.bytes, _ = h.beside.Arena().Read(0, 512*h.c.Pages)
	for range 2 {
		if got := h.s.Touched(); !slices.Equal(got, h.touched) {
			h.Fatalf("%s: touched %v, wanted %v", what, got, h.touched)
		}
		for id := range 8 {
			if got := tells(h.s, id); !got.equal(want.of[id]) {
				h.Fatalf("%s: of %d is told %+v, wanted %+v", what, id, got, want.of[id])
			}
		}
		if got := h.s.Free(); got != want.free {
			h.Fatalf("%s: Free %d, wanted %d", what, got, want.free)
		}
		if got, err := h.s.Bytes(0, len(want.bytes)); err != api.OK || got != want.bytes {
			h.Fatalf("%s: the arena's bytes are others: %d", what, err)
		}
	}
	for _, id := range nobodies {
		if got := tells(h.s, id); !got.equal(told{}) {
			h.Fatalf("%s: of %d is told %+v", what, id, got)
		}
	}
	h.last = want
}

// confined holds P21.5: what an operation touched lies in pages of the tenant that it names, and nothing else is another one behind it.
func (h *house) confined(what string, o api.Op, got api.Answer, ahead, behind seen) {
	h.Helper()
	if got.Err != api.OK && !ahead.equal(behind) {
		h.Fatalf("%s: it was refused (%d), and something is told otherwise", what, got.Err)
	}
	if !mayBe(o) {
		if len(h.s.Touched()) != 0 {
			h.Fatalf("%s: it is none, and touches %v", what, h.s.Touched())
		}
		return
	}
	own := slices.Concat(ahead.of[o.Tenant].pages, behind.of[o.Tenant].pages)
	for _, span := range h.s.Touched() {
		for page := span.At / 512; page <= (span.At+span.N-1)/512; page++ {
			if !slices.Contains(own, page) {
				h.Fatalf("%s: it touches %v, in a page that %d hasn't", what, span, o.Tenant)
			}
		}
	}
	for page := range h.c.Pages {
		if bytesOf(ahead, page) != bytesOf(behind, page) {
			h.wrote(what, page, ahead, behind)
		}
	}
	for id := range 8 {
		if id != o.Tenant && !ahead.of[id].equal(behind.of[id]) {
			h.Fatalf("%s: %d is told of otherwise: %+v, ahead %+v", what, id, behind.of[id], ahead.of[id])
		}
	}
	h.apart(what, behind)
}

// bytesOf are those of a page of the arena.
func bytesOf(x seen, page int) string { return x.bytes[512*page : 512*page+512] }

// wrote wants each byte of a page that is another one to have been written by the last operation.
func (h *house) wrote(what string, page int, ahead, behind seen) {
	h.Helper()
	var wrote [512]bool
	for _, span := range h.s.Touched() {
		for at := max(span.At, 512*page); span.Wrote && at < min(span.At+span.N, 512*page+512); at++ {
			wrote[at-512*page] = true
		}
	}
	for k := range 512 {
		if !wrote[k] && bytesOf(ahead, page)[k] != bytesOf(behind, page)[k] {
			h.Fatalf("%s: the byte %d is another one, and wasn't written", what, 512*page+k)
		}
	}
}

// apart goes over all pages: none is held by two, each is of a colour of who holds it, and those that nobody holds are 0.
func (h *house) apart(what string, x seen) {
	h.Helper()
	held := map[int]int{}
	free := h.c.Colours
	for id, of := range x.of {
		free -= len(of.window)
		if !slices.IsSorted(of.pages) || !slices.IsSorted(of.window) {
			h.Fatalf("%s: of %d the pages %v and the window %v don't rise", what, id, of.pages, of.window)
		}
		for _, page := range of.pages {
			if other, there := held[page]; there {
				h.Fatalf("%s: the page %d is of %d and %d", what, page, other, id)
			}
			held[page] = id
			if !slices.Contains(of.window, page%h.c.Colours) {
				h.Fatalf("%s: %d has the page %d, and the window %v", what, id, page, of.window)
			}
		}
	}
	if free != x.free {
		h.Fatalf("%s: %d colours are free, wanted %d", what, x.free, free)
	}
	for page := range h.c.Pages {
		if _, there := held[page]; !there && bytesOf(x, page) != emptyPage {
			h.Fatalf("%s: nobody has the page %d, and it isn't 0", what, page)
		}
	}
}

// handle is a good one of a tenant, mostly; else one of its that isn't any more, another one's, one with a bit turned, or one that nobody was given.
func (h *house) handle(r *rand.Rand, id int) uint64 {
	var own, good []uint64
	for _, g := range h.gifts {
		if g.id != id {
			continue
		}
		own = append(own, g.handle)
		if h.beside.Tenant(id).Usable(g.handle).Err == api.OK {
			good = append(good, g.handle)
		}
	}
	switch k := r.Intn(25); {
	case k > 5 && len(good) > 0:
		return good[r.Intn(len(good))]
	case k > 3 && len(own) > 0:
		return own[r.Intn(len(own))]
	case k == 3 && len(h.gifts) > 0:
		return h.gifts[r.Intn(len(h.gifts))].handle
	case k == 2 && len(h.gifts) > 0:
		return h.gifts[r.Intn(len(h.gifts))].handle ^ 1<<r.Intn(64)
	case k == 1:
		return r.Uint64()
	}
	return 0
}

// someSize is a size of any kind; small ones come more often.
func someSize(r *rand.Rand) int {
	switch r.Intn(10) {
	case 0:
		return 1 + r.Intn(8192)
	case 1, 2:
		return 1 + r.Intn(1500)
	case 3:
		return []int{0, -1, 1, 16, 17, 256, 257, 512, 513, 8192, 8193, math.MaxInt, math.MinInt}[r.Intn(13)]
	}
	return 1 + r.Intn(256)
}

// some is an operation of any kind, now and then one that may not be.
func (h *house) some(r *rand.Rand, quotas ...int) api.Op {
	id := r.Intn(3)
	if r.Intn(6) == 0 {
		id = r.Intn(8)
	}
	colours, quota := 1+r.Intn(h.c.Colours), quotas[r.Intn(len(quotas))]
	switch k := r.Intn(60); {
	case k < 5:
		return create(id, colours, quota)
	case k < 8:
		return resize(id, colours, quota)
	case k == 8:
		return destroy(id)
	case k == 9:
		return bad(r, id, h.handle(r, id))
	case k < 24:
		return malloc(id, someSize(r))
	case k < 27:
		return calloc(id, 1+r.Intn(40), 1+r.Intn(40))
	case k < 35:
		return free(id, h.handle(r, id))
	case k < 42:
		return realloc(id, h.handle(r, id), someSize(r))
	case k < 44:
		return usable(id, h.handle(r, id))
	case k < 48:
		return read(id, h.handle(r, id), r.Intn(20)-1, r.Intn(1<<r.Intn(10))-1)
	case k < 56:
		return write(id, h.handle(r, id), r.Intn(20)-1, noise(r.Intn(1<<r.Intn(10)), r.Intn(100)))
	}
	return restrict(id, h.handle(r, id), r.Intn(10)-1)
}

// bad is an operation that may not be.
func bad(r *rand.Rand, id int, h uint64) api.Op {
	o := api.Op{Kind: 1 + r.Intn(11), Tenant: id, N: 16, M: 1, Handle: h}
	switch r.Intn(3) {
	case 0:
		o.Kind = noKinds[r.Intn(len(noKinds))]
	case 1:
		o.Tenant = nobodies[r.Intn(len(nobodies))]
	default:
		o.Data = noise(1, 1)
		if o.Kind == api.OpWrite {
			o.Data = noise(8193, 1)
		}
	}
	return o
}
