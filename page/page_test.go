package page

import (
	"encoding/binary"
	"fmt"
	"math"
	"math/rand"
	"slices"
	"strings"
	"testing"

	"garth/api"
	"garth/arena"
)

// units and pers are written out as the document has them.
var (
	units = [8]int{16, 32, 48, 64, 96, 128, 192, 256}
	pers  = [8]int{32, 16, 10, 8, 5, 4, 2, 2}
)

// far are numbers that are no base, no kind and no block; the lower bits of some would be.
var far = []int{
	math.MinInt, math.MinInt + 1, math.MinInt + 512, math.MinInt32, -1 << 32, -1<<32 + 1, -1<<32 + 512, -1 << 21, -1024, -513, -512, -511, -2, -1,
	1<<21 + 1, 1<<21 + 512, 1 << 31, 1 << 32, 1<<32 + 1, 1<<32 + 512, 1 << 61, 1 << 62, 1<<62 + 512,
	math.MaxInt - 1023, math.MaxInt - 512, math.MaxInt - 511, math.MaxInt - 1, math.MaxInt,
}

// row is an arena the plain way: its bytes, and what of them was touched.
type row struct {
	bytes   []byte
	touches []api.Span
}

func (r *row) touch(at, n int, wrote bool) {
	r.touches = append(r.touches, api.Span{At: at, N: n, Wrote: wrote})
}

func (r *row) store(at int, v uint64) {
	r.touch(at, 8, true)
	binary.LittleEndian.PutUint64(r.bytes[at:], v)
}

func (r *row) zero(at, n int) {
	r.touch(at, n, true)
	clear(r.bytes[at : at+n])
}

// plain is a page the plain way: it knows the order of its blocks without asking the arena.
type plain struct {
	row            *row
	base, kind     int
	had            []bool
	fresh          int
	free, deferred []int
}

func (p *plain) own(k int) bool { return 0 <= k && k < len(p.had) }

func (p *plain) at(k int) int { return p.base + k*units[p.kind] }

func (p *plain) used() int {
	n := 0
	for _, had := range p.had {
		if had {
			n++
		}
	}
	return n
}

func (p *plain) alloc() (int, api.Errno) {
	k := p.fresh
	if p.used() == len(p.had) {
		return 0, api.ErrMany
	}
	if len(p.free) == 0 {
		p.free, p.deferred = p.deferred, nil
	}
	if len(p.free) > 0 {
		k = p.free[0]
		p.free = slices.Clone(p.free[1:])
		p.row.touch(p.at(k), 8, false)
		p.row.store(p.at(k), 0)
	} else {
		p.fresh++
	}
	p.had[k] = true
	return k, api.OK
}

func (p *plain) giveBack(k int) api.Errno {
	if !p.own(k) {
		return api.ErrArg
	}
	if !p.had[k] {
		return api.ErrNone
	}
	link := 0
	if len(p.deferred) > 0 {
		link = p.deferred[0] + 1
	}
	p.row.zero(p.at(k), units[p.kind])
	p.row.store(p.at(k), uint64(link))
	p.deferred = append([]int{k}, p.deferred...)
	p.had[k] = false
	return api.OK
}

func (p *plain) move(base int) api.Errno {
	for at := 0; at+512 <= len(p.row.bytes); at += 512 {
		if at == base {
			p.base = base
			return api.OK
		}
	}
	return api.ErrArg
}

func (p *plain) copied(r *row) *plain {
	other := *p
	other.row = r
	other.had = slices.Clone(p.had)
	other.free, other.deferred = slices.Clone(p.free), slices.Clone(p.deferred)
	return &other
}

func (p *plain) state() string {
	return fmt.Sprint(p.had, p.fresh, p.free, p.deferred)
}

// noise are bytes none of which is 0, so that one that is touched shows.
func noise(n int) string {
	var out strings.Builder
	for i := range n {
		out.WriteByte(byte(i%251 + 1))
	}
	return out.String()
}

// arenaOf has these bytes, and no touches.
func arenaOf(t *testing.T, bytes string) (*arena.Arena, *row) {
	t.Helper()
	a, err := arena.New(len(bytes))
	if err != api.OK || a.Write(0, bytes) != api.OK {
		t.Fatalf("no arena of %d bytes", len(bytes))
	}
	a.Forget()
	return a, &row{bytes: []byte(bytes)}
}

// twin is a page, the plain one that it is held against, and the arenas of both.
type twin struct {
	*testing.T
	a *arena.Arena
	r *row
	g *Page
	p *plain
}

// twinIn makes both in an arena that is there.
func twinIn(t *testing.T, a *arena.Arena, r *row, base, kind int) *twin {
	t.Helper()
	g, err := New(a, base, kind)
	if err != api.OK || g == nil {
		t.Fatalf("New(%d, %d) in %d bytes: %v, %d", base, kind, a.Size(), g, err)
	}
	w := &twin{t, a, r, g, &plain{row: r, base: base, kind: kind, had: make([]bool, pers[kind])}}
	w.same("New")
	return w
}

// withNoughts is noise but for the bytes of a page's blocks, which are 0.
func withNoughts(size, base, kind int) string {
	bytes := []byte(noise(size))
	clear(bytes[base : base+units[kind]*pers[kind]])
	return string(bytes)
}

// lay makes both in an arena of their own, that has noise wherever the page has no block.
func lay(t *testing.T, size, base, kind int) *twin {
	t.Helper()
	a, r := arenaOf(t, withNoughts(size, base, kind))
	return twinIn(t, a, r, base, kind)
}

// same holds against each other all that can be told without a change, and what was touched since the last time.
func (w *twin) same(what string) {
	w.Helper()
	if got, want := w.g.Used(), w.p.used(); got != want {
		w.Fatalf("%s: Used is %d, wanted %d", what, got, want)
	}
	if got, want := w.g.Full(), w.p.used() == len(w.p.had); got != want {
		w.Fatalf("%s: Full is %v", what, got)
	}
	if got := w.g.Base(); got != w.p.base {
		w.Fatalf("%s: Base is %d, wanted %d", what, got, w.p.base)
	}
	if got := w.g.Kind(); got != w.p.kind {
		w.Fatalf("%s: Kind is %d, wanted %d", what, got, w.p.kind)
	}
	for k := -2; k < 70; k++ {
		if got, want := w.g.Has(k), w.p.own(k) && w.p.had[k]; got != want {
			w.Fatalf("%s: Has(%d) is %v", what, k, got)
		}
	}
	if got := w.a.Touched(); !slices.Equal(got, w.r.touches) {
		w.Fatalf("%s: touched %v, wanted %v", what, got, w.r.touches)
	}
	if got, _ := w.a.Read(0, w.a.Size()); got != string(w.r.bytes) {
		w.Fatalf("%s: the arena has\n%x, wanted\n%x", what, got, w.r.bytes)
	}
	w.a.Forget()
	w.r.touches = nil
}

func (w *twin) alloc() (int, api.Errno) {
	w.Helper()
	got, err := w.g.Alloc()
	want, wantErr := w.p.alloc()
	if got != want || err != wantErr {
		w.Fatalf("kind %d: Alloc: %d, %d, wanted %d, %d", w.p.kind, got, err, want, wantErr)
	}
	w.same("Alloc")
	return got, err
}

func (w *twin) free(k int) api.Errno {
	w.Helper()
	got, want := w.g.Free(k), w.p.giveBack(k)
	if got != want {
		w.Fatalf("kind %d: Free(%d): %d, wanted %d", w.p.kind, k, got, want)
	}
	w.same(fmt.Sprintf("Free(%d)", k))
	return got
}

func (w *twin) move(base int) api.Errno {
	w.Helper()
	got, want := w.g.Move(base), w.p.move(base)
	if got != want {
		w.Fatalf("kind %d: Move(%d): %d, wanted %d", w.p.kind, base, got, want)
	}
	w.same(fmt.Sprintf("Move(%d)", base))
	return got
}

// write puts bytes into the arena, as somebody else might.
func (w *twin) write(at int, bytes string) {
	w.Helper()
	if err := w.a.Write(at, bytes); err != api.OK {
		w.Fatalf("Write(%d): %d", at, err)
	}
	copy(w.r.bytes[at:], bytes)
	w.r.touch(at, len(bytes), true)
	w.same("write")
}

// carry puts a page's bytes elsewhere, and noise where they were.
func (w *twin) carry(to int) {
	w.Helper()
	from := w.p.base
	bytes := string(w.r.bytes[from : from+512])
	w.write(from, noise(512))
	w.write(to, bytes)
}

// copied is a copy in an arena of its own that has the same bytes.
func (w *twin) copied() *twin {
	w.Helper()
	a, r := arenaOf(w.T, string(w.r.bytes))
	other := &twin{w.T, a, r, w.g.Copy(a), w.p.copied(r)}
	if other.g == nil || other.g == w.g {
		w.Fatal("Copy answered no new one")
	}
	other.same("Copy, the new one")
	w.same("Copy, the old one")
	return other
}

// goesOn holds against each other what a copy gives out till it is full.
func (w *twin) goesOn() {
	w.Helper()
	other := w.copied()
	for range len(other.p.had) + 2 {
		other.alloc()
	}
	w.same("a copy went on")
}

// allocs wants just these to be had, one after the other.
func (w *twin) allocs(ks ...int) {
	w.Helper()
	for i, want := range ks {
		if got, err := w.alloc(); got != want || err != api.OK {
			w.Fatalf("kind %d: Alloc %d: %d, %d, wanted %d", w.p.kind, i, got, err, want)
		}
	}
}

// frees wants all of them to be given back.
func (w *twin) frees(ks ...int) {
	w.Helper()
	for _, k := range ks {
		if err := w.free(k); err != api.OK {
			w.Fatalf("kind %d: Free(%d): %d", w.p.kind, k, err)
		}
	}
}

// isFull wants no block to be had beside those that are.
func (w *twin) isFull() {
	w.Helper()
	for range 2 {
		if k, err := w.alloc(); k != 0 || err != api.ErrMany || !w.g.Full() {
			w.Fatalf("kind %d: Alloc of a full one: %d, %d, %v", w.p.kind, k, err, w.g.Full())
		}
	}
}

// linkIs asks the plain bytes, which were held against the arena's.
func (w *twin) linkIs(k int, want uint64) {
	w.Helper()
	if got := binary.LittleEndian.Uint64(w.r.bytes[w.p.at(k):]); got != want {
		w.Fatalf("the link of %d is %d, wanted %d", k, got, want)
	}
}

// noughts wants 0 wherever the document says so, as long as nobody else wrote.
func (w *twin) noughts(what string) {
	w.Helper()
	for k := range w.p.had {
		bytes := w.r.bytes[w.p.at(k) : w.p.at(k)+units[w.p.kind]]
		if !w.p.had[k] && k < w.p.fresh {
			bytes = bytes[8:]
		}
		for i, b := range bytes {
			if b != 0 {
				w.Fatalf("%s: kind %d, block %d: byte %d of %d is %d", what, w.p.kind, k, i, len(bytes), b)
			}
		}
	}
}

func upTo(n int) []int {
	var out []int
	for k := range n {
		out = append(out, k)
	}
	return out
}

func reversed(ks []int) []int {
	out := slices.Clone(ks)
	slices.Reverse(out)
	return out
}

// permute hands each order of the numbers to each.
func permute(ks []int, each func([]int)) {
	var walk func(done, left []int)
	walk = func(done, left []int) {
		if len(left) == 0 {
			each(done)
			return
		}
		for i := range left {
			rest := slices.Delete(slices.Clone(left), i, i+1)
			walk(append(slices.Clone(done), left[i]), rest)
		}
	}
	walk(nil, ks)
}

// beside are numbers of no block.
func beside(per int) []int {
	return append([]int{per, per + 1, 2 * per, 32, 64, 255, 256, 511, 512}, far...)
}

func wantNew(t *testing.T, a *arena.Arena, base, kind int, want api.Errno) {
	t.Helper()
	g, err := New(a, base, kind)
	if err != want || (g != nil) != (want == api.OK) {
		t.Fatalf("New(%d, %d) in %d bytes: %v, %d, wanted %d", base, kind, a.Size(), g, err, want)
	}
	if spans := a.Touched(); len(spans) != 0 {
		t.Fatalf("New(%d, %d) touched %v", base, kind, spans)
	}
}

// P12.1

func TestNewOfEveryKind(t *testing.T) {
	for kind := range 8 {
		for _, base := range []int{0, 512, 1024} {
			w := lay(t, 1536, base, kind)
			if w.g.Base() != base || w.g.Kind() != kind || w.g.Used() != 0 || w.g.Full() {
				t.Fatal(kind, base, w.g.Base(), w.g.Kind(), w.g.Used(), w.g.Full())
			}
			for k := -1; k <= pers[kind]; k++ {
				if w.g.Has(k) {
					t.Fatalf("kind %d: a fresh one has %d", kind, k)
				}
			}
			w.allocs(upTo(pers[kind])...)
			w.isFull()
		}
	}
}

func TestNewOfOtherKinds(t *testing.T) {
	a, _ := arenaOf(t, noise(1024))
	for kind := -40; kind <= 40; kind++ {
		want := api.ErrArg
		if 0 <= kind && kind <= 7 {
			want = api.OK
		}
		wantNew(t, a, 512, kind, want)
	}
	for _, kind := range far {
		wantNew(t, a, 512, kind, api.ErrArg)
	}
}

func TestNewAtEveryBase(t *testing.T) {
	for _, size := range []int{0, 1, 384, 480, 511, 512, 513, 1023, 1024, 1025, 1535, 1536} {
		a, r := arenaOf(t, noise(size))
		for base := -1100; base <= size+1100; base++ {
			for _, kind := range []int{0, 6, 7} {
				want := api.ErrArg
				if base >= 0 && base%512 == 0 && base+512 <= size {
					want = api.OK
				}
				wantNew(t, a, base, kind, want)
			}
		}
		for _, base := range far {
			for kind := range 8 {
				wantNew(t, a, base, kind, api.ErrArg)
			}
		}
		if got, _ := a.Read(0, size); got != string(r.bytes) {
			t.Fatalf("size %d: New changed bytes", size)
		}
	}
}

// The blocks of the kinds 2, 4 and 6 end ahead of the page: the page must be there whole all the same.
func TestNewWantsTheWholePage(t *testing.T) {
	for kind := range 8 {
		for _, size := range []int{units[kind] * pers[kind], 511} {
			a, _ := arenaOf(t, noise(size))
			want := api.ErrArg
			if size == 512 {
				want = api.OK
			}
			wantNew(t, a, 0, kind, want)
			b, _ := arenaOf(t, noise(512+size))
			wantNew(t, b, 512, kind, want)
		}
	}
}

func TestNewInTheGreatestArena(t *testing.T) {
	a, err := arena.New(1 << 21)
	if err != api.OK {
		t.Fatal(err)
	}
	for kind := range 8 {
		wantNew(t, a, 1<<21-512, kind, api.OK)
		for _, base := range []int{1 << 21, 1<<21 - 1, 1<<21 - 511, 1<<21 - 513, 1<<21 + 512} {
			wantNew(t, a, base, kind, api.ErrArg)
		}
	}
	g, _ := New(a, 1<<21-512, 0)
	for k := range 32 {
		if got, err := g.Alloc(); got != k || err != api.OK {
			t.Fatal(got, err)
		}
	}
	if err := g.Free(31); err != api.OK {
		t.Fatal(err)
	}
	if want := []api.Span{{At: 1<<21 - 16, N: 16, Wrote: true}, {At: 1<<21 - 16, N: 8, Wrote: true}}; !slices.Equal(a.Touched(), want) {
		t.Fatal(a.Touched())
	}
}

func TestNewWithoutArena(t *testing.T) {
	for _, base := range append([]int{0, 1, 511, 512, 513}, far...) {
		for _, kind := range append([]int{0, 7, 8}, far...) {
			if g, err := New(nil, base, kind); g != nil || err != api.ErrNil {
				t.Fatalf("New(nil, %d, %d): %v, %d", base, kind, g, err)
			}
		}
	}
}

func TestNewOfTwoErrors(t *testing.T) {
	a, _ := arenaOf(t, noise(1024))
	for _, base := range append([]int{1, 511, 513, 1024}, far...) {
		for _, kind := range append([]int{8, 23}, far...) {
			wantNew(t, a, base, kind, api.ErrArg)
		}
	}
}

func TestUsedFullAndHasStepByStep(t *testing.T) {
	for kind, per := range pers {
		w := lay(t, 1536, 512, kind)
		tells := func(used int, full bool) {
			t.Helper()
			if w.g.Used() != used || w.g.Full() != full {
				t.Fatalf("kind %d: Used %d, Full %v; wanted %d, %v", kind, w.g.Used(), w.g.Full(), used, full)
			}
		}
		tells(0, false)
		for k := range per {
			w.allocs(k)
			tells(k+1, k+1 == per)
			if !w.g.Has(k) || w.g.Has(k+1) {
				t.Fatalf("kind %d: Has(%d) %v, Has(%d) %v", kind, k, w.g.Has(k), k+1, w.g.Has(k+1))
			}
		}
		for k := range per {
			w.frees(k)
			tells(per-k-1, false)
			if w.g.Has(k) || w.g.Has(k+1) != (k+1 < per) {
				t.Fatalf("kind %d: Has(%d) %v, Has(%d) %v", kind, k, w.g.Has(k), k+1, w.g.Has(k+1))
			}
		}
	}
}

func TestHasOfNumbersOfNoBlock(t *testing.T) {
	for kind, per := range pers {
		w := lay(t, 512, 0, kind)
		for range per + 1 {
			for _, k := range beside(per) {
				if w.g.Has(k) {
					t.Fatalf("kind %d: Has(%d)", kind, k)
				}
			}
			w.alloc()
		}
		w.same("Has")
	}
}

// P12.2

func TestAllocOfFreshOnesAlone(t *testing.T) {
	for kind, per := range pers {
		w := lay(t, 1536, 512, kind)
		for k := range per {
			if got, err := w.g.Alloc(); got != k || err != api.OK {
				t.Fatalf("kind %d: Alloc: %d, %d, wanted %d", kind, got, err, k)
			}
		}
		if spans := w.a.Touched(); len(spans) != 0 {
			t.Fatalf("kind %d: fresh blocks were touched: %v", kind, spans)
		}
	}
}

func TestAllocOfFullOne(t *testing.T) {
	for kind, per := range pers {
		w := lay(t, 1536, 512, kind)
		w.allocs(upTo(per)...)
		w.isFull()
		for k := range per {
			w.frees(k)
			w.allocs(k)
			w.isFull()
		}
	}
}

func TestAllocOfDeferredOnesAlone(t *testing.T) {
	for kind, per := range pers {
		w := lay(t, 1536, 512, kind)
		w.allocs(upTo(per)...)
		w.frees(upTo(per)...)
		w.allocs(reversed(upTo(per))...)
		w.isFull()
		w.frees(reversed(upTo(per))...)
		w.allocs(upTo(per)...)
		w.isFull()
	}
}

func TestAllocOfFreeOnesAlone(t *testing.T) {
	for kind, per := range pers {
		w := lay(t, 1536, 512, kind)
		w.allocs(upTo(per)...)
		w.frees(upTo(per)...)
		// The first Alloc makes all the others free ones.
		w.allocs(per - 1)
		if len(w.p.free) != per-1 || len(w.p.deferred) != 0 {
			t.Fatal(w.p.state())
		}
		for k := per - 2; k >= 0; k-- {
			w.allocs(k)
		}
		w.isFull()
	}
}

// all4 is a page with had, free, deferred and fresh blocks: 1 is had, 0 is free, 2 is deferred, 3 and those behind it are fresh.
func all4(t *testing.T, kind int) *twin {
	t.Helper()
	w := lay(t, 1536, 512, kind)
	w.allocs(0, 1, 2)
	w.frees(0, 1)
	w.allocs(1)
	w.frees(2)
	return w
}

func TestAllocOfAllSortsBesideEachOther(t *testing.T) {
	for kind := range 6 {
		w := all4(t, kind)
		if want := "[0] [2]"; fmt.Sprint(w.p.free, w.p.deferred) != want || w.p.fresh != 3 || w.g.Used() != 1 {
			t.Fatal(w.p.state())
		}
		w.allocs(0, 2)
		for k := 3; k < pers[kind]; k++ {
			w.allocs(k)
		}
		w.isFull()
	}
}

func TestDeferredOnesWaitForAllFreeOnes(t *testing.T) {
	w := lay(t, 1536, 512, 0)
	w.allocs(upTo(12)...)
	w.frees(0, 1, 2, 3, 4, 5)
	w.allocs(5) // 4 3 2 1 0 are free
	w.frees(6, 5, 7)
	w.allocs(4, 3)
	w.frees(3, 4)
	w.allocs(2, 1, 0)
	w.frees(0)
	w.allocs(0, 4, 3, 7, 5, 6)
	w.allocs(12, 13)
}

func TestAllocOfAFreeOneTouchesOneWordTwice(t *testing.T) {
	for kind, per := range pers {
		w := lay(t, 1536, 512, kind)
		w.allocs(upTo(per)...)
		w.frees(upTo(per)...)
		for k := per - 1; k >= 0; k-- {
			if got, err := w.g.Alloc(); got != k || err != api.OK {
				t.Fatal(kind, got, err)
			}
			at := 512 + k*units[kind]
			want := []api.Span{{At: at, N: 8}, {At: at, N: 8, Wrote: true}}
			if got := w.a.Touched(); !slices.Equal(got, want) {
				t.Fatalf("kind %d: Alloc of %d touched %v, wanted %v", kind, k, got, want)
			}
			if got, _ := w.a.Read(at, units[kind]); got != string(make([]byte, units[kind])) {
				t.Fatalf("kind %d: %d isn't 0 when it is had: %x", kind, k, got)
			}
			w.a.Forget()
		}
	}
}

func TestAllocOfFullOneTouchesNothing(t *testing.T) {
	for kind, per := range pers {
		w := lay(t, 1536, 512, kind)
		w.allocs(upTo(per)...)
		w.write(512, noise(512))
		w.isFull()
		w.goesOn()
	}
}

// P12.3

func TestFreeTouchesTheBlockThenItsLink(t *testing.T) {
	for kind, per := range pers {
		w := lay(t, 1536, 512, kind)
		w.allocs(upTo(per)...)
		w.write(512, noise(512))
		for k := range per {
			if err := w.g.Free(k); err != api.OK {
				t.Fatal(kind, k, err)
			}
			at := 512 + k*units[kind]
			want := []api.Span{{At: at, N: units[kind], Wrote: true}, {At: at, N: 8, Wrote: true}}
			if got := w.a.Touched(); !slices.Equal(got, want) {
				t.Fatalf("kind %d: Free(%d) touched %v, wanted %v", kind, k, got, want)
			}
			// The block that was given back ahead of it is k-1, whose link says its number and one.
			if link, _ := w.a.Load(at); link != uint64(k) {
				t.Fatalf("kind %d: the link of %d is %d", kind, k, link)
			}
			if rest, _ := w.a.Read(at+8, units[kind]-8); rest != string(make([]byte, units[kind]-8)) {
				t.Fatalf("kind %d: Free(%d) leaves %x", kind, k, rest)
			}
			w.a.Forget()
		}
	}
}

func TestFreeLinksWithinTheDeferredOnesAlone(t *testing.T) {
	w := all4(t, 0)
	w.linkIs(0, 0)
	w.linkIs(2, 0)
	w.frees(1)
	w.linkIs(1, 3)
	w.linkIs(0, 0)
	w.allocs(0, 1, 2, 3)
	for k := range 4 {
		w.linkIs(k, 0)
	}
}

func TestFreeOfNumbersOfNoBlock(t *testing.T) {
	for kind, per := range pers {
		w := lay(t, 1536, 512, kind)
		for range per + 1 {
			for _, k := range beside(per) {
				if err := w.free(k); err != api.ErrArg {
					t.Fatalf("kind %d: Free(%d): %d", kind, k, err)
				}
			}
			w.goesOn()
			w.alloc()
		}
	}
}

func TestFreeOfWhatIsntHad(t *testing.T) {
	for kind := range 6 {
		w := all4(t, kind)
		for range 2 {
			for k, sort := range []string{"free", "had", "deferred", "fresh"} {
				if k == 1 {
					continue
				}
				if err := w.free(k); err != api.ErrNone {
					t.Fatalf("kind %d: Free(%d), which is %s: %d", kind, k, sort, err)
				}
				w.goesOn()
			}
		}
	}
}

func TestFreeOfFreshOnes(t *testing.T) {
	for kind, per := range pers {
		w := lay(t, 1536, 512, kind)
		for n := range per {
			for k := n; k < per; k++ {
				if err := w.free(k); err != api.ErrNone {
					t.Fatalf("kind %d: Free(%d): %d", kind, k, err)
				}
			}
			w.allocs(n)
		}
	}
}

func TestFreeTwice(t *testing.T) {
	for kind, per := range pers {
		for _, k := range []int{0, per / 2, per - 1} {
			w := lay(t, 1536, 512, kind)
			w.allocs(upTo(per)...)
			w.frees(k)
			for range 2 {
				if err := w.free(k); err != api.ErrNone {
					t.Fatalf("kind %d: Free(%d) again: %d", kind, k, err)
				}
			}
			w.goesOn()
			w.allocs(k)
			w.isFull()
			w.frees(k)
		}
	}
}

// A block that isn't there isn't had, either: ErrArg is named first.
func TestFreeOfTwoErrors(t *testing.T) {
	w := lay(t, 512, 0, 7)
	for _, k := range beside(2) {
		if err := w.free(k); err != api.ErrArg {
			t.Fatalf("Free(%d): %d", k, err)
		}
	}
}

func TestGivenBackInEachOrderAndHadAgain(t *testing.T) {
	for kind := 4; kind <= 7; kind++ {
		per := pers[kind]
		permute(upTo(per), func(order []int) {
			w := lay(t, 1536, 512, kind)
			w.allocs(upTo(per)...)
			w.frees(order...)
			if w.g.Used() != 0 {
				t.Fatal(w.g.Used())
			}
			w.noughts("all given back")
			w.allocs(reversed(order)...)
			w.isFull()
			w.frees(order...)
			w.allocs(reversed(order)...)
			w.isFull()
		})
	}
}

// P12.4

func TestMoveToEveryBase(t *testing.T) {
	for _, size := range []int{512, 1023, 1024, 1536, 1537, 2047} {
		w := lay(t, size, 0, 6)
		w.allocs(0, 1)
		w.frees(0)
		for base := -1100; base <= size+1100; base++ {
			w.move(base)
		}
		for _, base := range far {
			if err := w.move(base); err != api.ErrArg {
				t.Fatalf("Move(%d): %d", base, err)
			}
		}
	}
}

func TestMoveThatIsRefusedChangesNothing(t *testing.T) {
	for kind := range 8 {
		w := lay(t, 2047, 512, kind)
		w.allocs(0, 1)
		w.frees(1, 0)
		w.allocs(0)
		for _, base := range append([]int{1, 511, 513, 1023, 1025, 1536, 2047, 2048}, far...) {
			if err := w.move(base); err != api.ErrArg {
				t.Fatalf("kind %d: Move(%d): %d", kind, base, err)
			}
			w.goesOn()
		}
		w.frees(0)
		w.allocs(1, 0)
	}
}

func TestMoveToWhereItsBytesWereCopied(t *testing.T) {
	for kind := range 6 {
		per := pers[kind]
		for _, base := range []int{0, 1024} {
			w := all4(t, kind)
			w.write(w.p.at(1), noise(units[kind]))
			w.carry(base)
			if err := w.move(base); err != api.OK || w.g.Base() != base {
				t.Fatal(kind, base, err)
			}
			w.goesOn()
			w.frees(1)
			w.allocs(0, 1, 2)
			for k := 3; k < per; k++ {
				w.allocs(k)
			}
			w.isFull()
			w.frees(upTo(per)...)
			w.allocs(reversed(upTo(per))...)
			w.isFull()
		}
	}
}

func TestMoveOfOneWithoutBlocks(t *testing.T) {
	for kind, per := range pers {
		w := lay(t, 1536, 512, kind)
		if err := w.move(1024); err != api.OK {
			t.Fatal(err)
		}
		w.allocs(upTo(per)...)
		w.isFull()
		w.frees(upTo(per)...)
		w.allocs(reversed(upTo(per))...)
	}
}

func TestMoveToWhereItIs(t *testing.T) {
	for kind := range 6 {
		w := all4(t, kind)
		if err := w.move(512); err != api.OK {
			t.Fatal(err)
		}
		w.goesOn()
	}
}

func TestMoveThereAndBack(t *testing.T) {
	for kind := range 6 {
		w := all4(t, kind)
		for _, base := range []int{0, 1024, 512, 1024, 0} {
			w.carry(base)
			w.move(base)
			w.goesOn()
			w.frees(slices.Index(w.p.had, true))
			w.alloc()
		}
	}
}

func TestCopyOfWhichEitherGoesOn(t *testing.T) {
	for kind := range 6 {
		per := pers[kind]
		for _, first := range []bool{true, false} {
			w := all4(t, kind)
			other := w.copied()
			goer, stays := w, other
			if !first {
				goer, stays = other, w
			}
			goer.frees(1)
			goer.allocs(0, 1, 2)
			for k := 3; k < per; k++ {
				goer.allocs(k)
			}
			goer.isFull()
			goer.frees(upTo(per)...)
			goer.carry(1024)
			goer.move(1024)
			stays.same("the other one went on")
			if !stays.g.Has(1) || stays.g.Used() != 1 || stays.g.Base() != 512 {
				t.Fatal(stays.g.Used(), stays.g.Base())
			}
			stays.allocs(0, 2)
			for k := 3; k < per; k++ {
				stays.allocs(k)
			}
			stays.isFull()
			goer.same("the other one went on")
			goer.allocs(reversed(upTo(per))...)
		}
	}
}

func TestCopyInAGreaterArena(t *testing.T) {
	w := all4(t, 3)
	a, r := arenaOf(t, string(w.r.bytes)+noise(512))
	other := &twin{t, a, r, w.g.Copy(a), w.p.copied(r)}
	other.same("Copy")
	if err := w.move(1536); err != api.ErrArg {
		t.Fatal(err)
	}
	other.carry(1536)
	if err := other.move(1536); err != api.OK {
		t.Fatal(err)
	}
	other.allocs(0, 2, 3)
	w.same("the copy went on")
}

func TestCopyInTheSameArena(t *testing.T) {
	w := all4(t, 3)
	other := w.g.Copy(w.a)
	w.same("Copy")
	// Both are told of the same links, so each must see what the other left there.
	if k, err := other.Alloc(); k != 0 || err != api.OK {
		t.Fatal(k, err)
	}
	if w.g.Has(0) || !other.Has(0) || w.g.Used() != 1 || other.Used() != 2 {
		t.Fatal(w.g.Used(), other.Used())
	}
	if k, err := w.g.Alloc(); k != 0 || err != api.OK {
		t.Fatal(k, err)
	}
}

// others makes a copy in an arena that hasn't the page's bytes, and wants it to be told so, and to stay as it is.
func others(t *testing.T, a *arena.Arena, want api.Errno) {
	t.Helper()
	for kind := range 6 {
		w := all4(t, kind)
		other := w.g.Copy(a)
		w.same("Copy")
		stays := func(used int) {
			t.Helper()
			if other == nil || other.Used() != used || !other.Has(1) || other.Base() != 512 || other.Kind() != kind || len(a.Touched()) != 0 {
				t.Fatal(kind, other, a.Touched())
			}
		}
		stays(1)
		for range 2 {
			if k, err := other.Alloc(); k != 0 || err != want {
				t.Fatalf("Alloc of a free one: %d, %d", k, err)
			}
			if err := other.Free(1); err != want {
				t.Fatalf("Free: %d", err)
			}
			if x, y := other.Free(0), other.Free(-1); x != api.ErrNone || y != api.ErrArg {
				t.Fatal(x, y)
			}
			if err := other.Move(512); err != api.ErrArg {
				t.Fatalf("Move: %d", err)
			}
			stays(1)
		}
		// What was refused there goes on in an arena that has the bytes.
		back := &twin{t, w.a, w.r, other.Copy(w.a), w.p}
		back.same("Copy of the copy")
		back.goesOn()
		back.frees(1)
		back.allocs(0, 1, 2)
	}
}

func TestCopyInASmallerArena(t *testing.T) {
	for _, size := range []int{0, 511, 512} {
		a, _ := arenaOf(t, noise(size))
		others(t, a, api.ErrRange)
	}
}

func TestCopyWithoutArena(t *testing.T) {
	others(t, nil, api.ErrNil)
}

// A refused Alloc must leave the deferred ones deferred: what is given back behind it comes ahead of them.
func TestRefusedAllocLeavesTheDeferredOnes(t *testing.T) {
	w := lay(t, 1024, 512, 5)
	w.allocs(0, 1, 2)
	w.frees(0, 1)
	other := w.g.Copy(nil)
	for range 2 {
		if k, err := other.Alloc(); k != 0 || err != api.ErrNil {
			t.Fatal(k, err)
		}
	}
	back := &twin{t, w.a, w.r, other.Copy(w.a), w.p}
	back.frees(2)
	back.allocs(2, 1, 0, 3)
	back.isFull()
}

func TestNil(t *testing.T) {
	var g *Page
	a, _ := arenaOf(t, noise(1024))
	if k, err := g.Alloc(); k != 0 || err != api.ErrNil {
		t.Error(k, err)
	}
	for _, k := range append([]int{0, 1, 31, 32, 511, 512, 513}, far...) {
		if x, y, z := g.Free(k), g.Move(k), g.Has(k); x != api.ErrNil || y != api.ErrNil || z {
			t.Errorf("number %d: %d, %d, %v", k, x, y, z)
		}
	}
	if g.Used() != 0 || g.Full() || g.Base() != 0 || g.Kind() != 0 {
		t.Error(g.Used(), g.Full(), g.Base(), g.Kind())
	}
	if x, y := g.Copy(a), g.Copy(nil); x != nil || y != nil {
		t.Error(x, y)
	}
	if len(a.Touched()) != 0 {
		t.Error(a.Touched())
	}
}

// A page that nobody made has no blocks.
func TestZeroPage(t *testing.T) {
	a, _ := arenaOf(t, noise(1024))
	for _, g := range []*Page{new(Page), new(Page).Copy(a), new(Page).Copy(nil)} {
		if k, err := g.Alloc(); k != 0 || err != api.ErrMany {
			t.Error(k, err)
		}
		for _, k := range append([]int{0, 1, 31}, far...) {
			if err := g.Free(k); err != api.ErrArg || g.Has(k) {
				t.Errorf("number %d: %d", k, err)
			}
		}
		g.Move(512)
		if g.Used() != 0 || g.Kind() != 0 {
			t.Error(g.Used(), g.Kind())
		}
	}
	if len(a.Touched()) != 0 {
		t.Error(a.Touched())
	}
}

// P12.5

// TestEveryState goes through all states that a page of few blocks can come to, and does each call in each of them.
func TestEveryState(t *testing.T) {
	for kind := 4; kind <= 7; kind++ {
		first := lay(t, 1024, 512, kind)
		seen := map[string]int{first.p.state(): 1}
		for todo := []*twin{first}; len(todo) > 0; todo = todo[1:] {
			w := todo[0]
			w.noughts("a state")
			for k := -2; k <= pers[kind]; k++ {
				other := w.copied()
				if k == -2 {
					other.alloc()
				} else {
					other.free(k)
				}
				w.same("a copy went on")
				if seen[other.p.state()] == 0 {
					seen[other.p.state()] = 1
					todo = append(todo, other)
				}
			}
		}
		// Few states would say that the walk ended too soon.
		if least := []int{500, 100, 8, 8}[kind-4]; len(seen) < least {
			t.Fatalf("kind %d: %d states", kind, len(seen))
		}
	}
}

// TestWalks has nobody else write, so that all bytes that must be 0 are held against 0 behind each call.
func TestWalks(t *testing.T) {
	for kind, per := range pers {
		for seed := range 12 {
			r := rand.New(rand.NewSource(int64(100*kind + seed)))
			a, err := arena.New(2048)
			if err != api.OK {
				t.Fatal(err)
			}
			w := twinIn(t, a, &row{bytes: make([]byte, 2048)}, 512, kind)
			for range 300 {
				// How full the page is goes up and down with the seed.
				switch n := r.Intn(20); {
				case n < 8+seed%3:
					w.alloc()
				case n < 18:
					w.free(r.Intn(per+2) - 1)
				case n == 18:
					w.carryAndMove(512 * r.Intn(4))
				default:
					w = w.copied()
				}
				w.noughts("walk")
			}
		}
	}
}

// carryAndMove does what whoever moves a page must do.
func (w *twin) carryAndMove(base int) {
	w.Helper()
	w.carry(base)
	if err := w.move(base); err != api.OK {
		w.Fatalf("Move(%d): %d", base, err)
	}
}

// TestWalksOfOwners has those who have blocks write there, as they may: what they wrote stays till they give it back.
func TestWalksOfOwners(t *testing.T) {
	for kind, per := range pers {
		for seed := range 6 {
			r := rand.New(rand.NewSource(int64(1000 + 100*kind + seed)))
			w := lay(t, 1536, 512, kind)
			for range 300 {
				k, n := r.Intn(per), r.Intn(10)
				switch {
				case n < 4:
					w.hadIsNoughts()
				case n < 7:
					w.free(k)
				case n < 9 && w.p.had[k]:
					w.write(w.p.at(k), noise(1+r.Intn(units[kind])))
				case n == 9:
					w.carryAndMove(512 * r.Intn(3))
				}
			}
		}
	}
}

// hadIsNoughts has a block, and wants it to be all 0.
func (w *twin) hadIsNoughts() {
	w.Helper()
	k, err := w.alloc()
	if err != api.OK {
		return
	}
	bytes := w.r.bytes[w.p.at(k) : w.p.at(k)+units[w.p.kind]]
	if string(bytes) != string(make([]byte, len(bytes))) {
		w.Fatalf("kind %d: %d is had with %x", w.p.kind, k, bytes)
	}
}

func TestPagesBesideEachOtherNeverMeet(t *testing.T) {
	a, err := arena.New(8 * 512)
	if err != api.OK {
		t.Fatal(err)
	}
	r := &row{bytes: make([]byte, 8*512)}
	var all []*twin
	for kind := range 8 {
		all = append(all, twinIn(t, a, r, 512*kind, kind))
	}
	random := rand.New(rand.NewSource(7))
	for range 4000 {
		w := all[random.Intn(8)]
		if random.Intn(2) == 0 {
			w.alloc()
		} else {
			w.free(random.Intn(pers[w.p.kind]))
		}
	}
	for _, w := range all {
		w.same("the others went on")
		w.noughts("the others went on")
	}
}

// Where somebody else wrote links: no block is had twice, and what is refused changes nothing.

// overwrite puts a word where a block begins.
func overwrite(t *testing.T, a *arena.Arena, at int, v uint64) {
	t.Helper()
	if err := a.Store(at, v); err != api.OK {
		t.Fatal(err)
	}
	a.Forget()
}

func wrongLinks(per int) []uint64 {
	return []uint64{uint64(per) + 1, uint64(per) + 2, 255, 256, 1 << 31, 1 << 32, 1<<32 + 1, 1 << 63, 1<<63 + 1, math.MaxUint64 - 1, math.MaxUint64}
}

func TestLinksThatSayNoBlock(t *testing.T) {
	for kind := range 6 {
		for _, link := range wrongLinks(pers[kind]) {
			// The free one, then the deferred one, has a link that says no block.
			for _, k := range []int{0, 2} {
				w := all4(t, kind)
				if k == 2 {
					w.allocs(0)
				}
				overwrite(t, w.a, w.p.at(k), link)
				for range 2 {
					if got, err := w.g.Alloc(); got != 0 || err != api.ErrForm {
						t.Fatalf("kind %d, link %d: Alloc: %d, %d", kind, link, got, err)
					}
				}
				overwrite(t, w.a, w.p.at(k), 0)
				w.same("the link is as it was")
				w.frees(1)
				w.goesOn()
			}
		}
	}
}

func TestLinksThatSayABlockThatIsHad(t *testing.T) {
	for kind := range 6 {
		w := all4(t, kind)
		unit := units[kind]
		w.write(w.p.at(1), noise(unit))
		overwrite(t, w.a, w.p.at(0), 2)
		if k, err := w.g.Alloc(); k != 0 || err != api.OK {
			t.Fatal(kind, k, err)
		}
		for range 2 {
			if k, err := w.g.Alloc(); k != 0 || err != api.ErrForm {
				t.Fatalf("kind %d: Alloc: %d, %d", kind, k, err)
			}
			if got, _ := w.a.Read(w.p.at(1), unit); got != noise(unit) || w.g.Used() != 2 || !w.g.Has(1) {
				t.Fatalf("kind %d: the block that is had has %x", kind, got)
			}
			// Noise says no block as a link: this one does.
			overwrite(t, w.a, w.p.at(1), 0)
			if k, err := w.g.Alloc(); k != 0 || err != api.ErrForm || w.g.Used() != 2 {
				t.Fatalf("kind %d: Alloc: %d, %d", kind, k, err)
			}
			overwrite(t, w.a, w.p.at(1), 1)
			if k, err := w.g.Alloc(); k != 0 || err != api.ErrForm || w.g.Used() != 2 {
				t.Fatalf("kind %d: Alloc: %d, %d", kind, k, err)
			}
			if link, _ := w.a.Load(w.p.at(1)); link != 1 {
				t.Fatalf("kind %d: its first word is %d", kind, link)
			}
			w.a.Write(w.p.at(1), noise(unit))
		}
		if err := w.g.Free(1); err != api.OK || w.g.Has(1) {
			t.Fatal(kind, err)
		}
	}
}

func TestLinksThatSayAFreshBlock(t *testing.T) {
	for kind := range 6 {
		per := pers[kind]
		for k := 3; k < per; k++ {
			w := all4(t, kind)
			overwrite(t, w.a, w.p.at(0), uint64(k)+1)
			if got, err := w.g.Alloc(); got != 0 || err != api.OK {
				t.Fatal(kind, got, err)
			}
			for range 2 {
				if got, err := w.g.Alloc(); got != 0 || err != api.ErrForm || w.g.Used() != 2 || w.g.Has(k) {
					t.Fatalf("kind %d, link to %d: Alloc: %d, %d", kind, k, got, err)
				}
			}
		}
	}
}

func TestLinksThatLoseBlocks(t *testing.T) {
	for kind, per := range pers {
		w := lay(t, 1024, 512, kind)
		w.allocs(upTo(per)...)
		w.frees(upTo(per)...)
		overwrite(t, w.a, w.p.at(per-1), 0)
		if k, err := w.g.Alloc(); k != per-1 || err != api.OK {
			t.Fatal(kind, k, err)
		}
		for range 2 {
			if k, err := w.g.Alloc(); k != 0 || err != api.ErrForm || w.g.Used() != 1 || w.g.Full() {
				t.Fatalf("kind %d: Alloc: %d, %d", kind, k, err)
			}
		}
		for range 2 {
			if err := w.g.Free(per - 1); err != api.OK {
				t.Fatal(kind, err)
			}
			if k, err := w.g.Alloc(); k != per-1 || err != api.OK {
				t.Fatal(kind, k, err)
			}
		}
	}
}

// TestWalksAmongOthers has somebody else write anything anywhere.
func TestWalksAmongOthers(t *testing.T) {
	for kind, per := range pers {
		for seed := range 10 {
			r := rand.New(rand.NewSource(int64(5000 + 100*kind + seed)))
			a, _ := arenaOf(t, noise(1536))
			g, err := New(a, 512, kind)
			if err != api.OK {
				t.Fatal(err)
			}
			had := make([]bool, per)
			for range 400 {
				k := r.Intn(per)
				switch n := r.Intn(10); {
				case n < 4:
					amongOthers(t, g, a, had)
				case n < 7:
					want := api.ErrNone
					if had[k] {
						want = api.OK
					}
					if err := g.Free(k); err != want {
						t.Fatalf("kind %d: Free(%d): %d", kind, k, err)
					}
					had[k] = false
				case n < 9:
					overwrite(t, a, 512+k*units[kind], uint64(r.Intn(per+3)))
				default:
					g = g.Copy(a)
				}
			}
		}
	}
}

func amongOthers(t *testing.T, g *Page, a *arena.Arena, had []bool) {
	t.Helper()
	was, _ := a.Read(0, a.Size())
	k, err := g.Alloc()
	full := !slices.Contains(had, false)
	switch {
	case (err == api.ErrMany) != full:
		t.Fatalf("Alloc: %d, %v", err, had)
	case err == api.OK && had[k]:
		t.Fatalf("Alloc: %d is had twice", k)
	case err == api.OK:
		had[k] = true
	case k != 0 || err != api.ErrMany && err != api.ErrForm:
		t.Fatalf("Alloc: %d, %d", k, err)
	default:
		if now, _ := a.Read(0, a.Size()); now != was {
			t.Fatal("a refused Alloc changed bytes")
		}
	}
	for k := range had {
		if g.Has(k) != had[k] {
			t.Fatalf("Has(%d): %v", k, g.Has(k))
		}
	}
}

// The chapter's examples.

func TestExamples(t *testing.T) {
	w := lay(t, 512, 0, 7)
	w.allocs(0, 1)
	w.isFull()
	w.frees(0, 1)
	w.allocs(1, 0)

	w = lay(t, 512, 0, 0)
	w.allocs(0, 1, 2)
	w.frees(1)
	w.allocs(1, 3)
}
