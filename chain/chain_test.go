package chain

import (
	"encoding/binary"
	"fmt"
	"math"
	"math/rand"
	"slices"
	"strings"
	"testing"

	"garth/api"
	"garth/arena"
)

// far are numbers that are no unit, no number of blocks, no base and no block; the lower bits of some would be.
var far = []int{
	math.MinInt, math.MinInt + 1, math.MinInt + 8, math.MinInt + 64, math.MinInt32, -1 << 32, -1<<32 + 8, -1 << 21, -513, -512, -65, -64, -8, -2, -1,
	1<<21 + 1, 1 << 31, 1 << 32, 1<<32 + 1, 1<<32 + 8, 1<<58 + 1, 1 << 61, 1 << 62, 1<<62 + 8, math.MaxInt - 8, math.MaxInt - 7, math.MaxInt - 1, math.MaxInt,
}

// row is an arena the plain way: its bytes, and what of them was touched.
type row struct {
	bytes   []byte
	touches []api.Span
}

func (r *row) load(at int) uint64 {
	r.touches = append(r.touches, api.Span{At: at, N: 8})
	return binary.LittleEndian.Uint64(r.bytes[at:])
}

func (r *row) store(at int, v uint64) {
	r.touches = append(r.touches, api.Span{At: at, N: 8, Wrote: true})
	binary.LittleEndian.PutUint64(r.bytes[at:], v)
}

// plain is a chain the plain way: its head is a block or -1.
type plain struct {
	row                   *row
	base, unit, per, head int
}

func (p *plain) own(k int) bool { return 0 <= k && k < p.per }

func (p *plain) push(k int) api.Errno {
	if !p.own(k) {
		return api.ErrArg
	}
	p.row.store(p.base+k*p.unit, uint64(p.head+1))
	p.head = k
	return api.OK
}

func (p *plain) pop() (int, api.Errno) {
	if p.head == -1 {
		return 0, api.ErrNone
	}
	if !p.own(p.head) {
		return 0, api.ErrForm
	}
	at := p.base + p.head*p.unit
	link := p.row.load(at)
	for n := 0; n <= p.per; n++ {
		if link == uint64(n) {
			was := p.head
			p.row.store(at, 0)
			p.head = n - 1
			return was, api.OK
		}
	}
	return 0, api.ErrForm
}

func (p *plain) all() ([]int, api.Errno) {
	var out []int
	for k := p.head; k != -1; {
		if len(out) == p.per || !p.own(k) {
			return nil, api.ErrForm
		}
		out = append(out, k)
		link := p.row.load(p.base + k*p.unit)
		if link > uint64(p.per) {
			return nil, api.ErrForm
		}
		k = int(link) - 1
	}
	return out, api.OK
}

func (p *plain) take(d *plain) api.Errno {
	if p.head != -1 {
		return api.ErrThere
	}
	head := d.head
	d.head = -1
	p.head = head
	return api.OK
}

func (p *plain) move(base int) api.Errno {
	if base < 0 || base > len(p.row.bytes) || base+p.unit*p.per > len(p.row.bytes) {
		return api.ErrArg
	}
	p.base = base
	return api.OK
}

// noise are bytes none of which is 0, so that one that is touched shows.
func noise(n int) string {
	var out strings.Builder
	for i := range n {
		out.WriteByte(byte(i%251 + 1))
	}
	return out.String()
}

// arenaOf has these bytes, and no touches.
func arenaOf(t *testing.T, bytes string) (*arena.Arena, *row) {
	t.Helper()
	a, err := arena.New(len(bytes))
	if err != api.OK || a.Write(0, bytes) != api.OK {
		t.Fatalf("no arena of %d bytes", len(bytes))
	}
	a.Forget()
	return a, &row{bytes: []byte(bytes)}
}

// twin is a chain, the plain one that it is held against, and the arenas of both.
type twin struct {
	*testing.T
	a *arena.Arena
	r *row
	c *Chain
	p *plain
}

// twinIn makes both in an arena that is there.
func twinIn(t *testing.T, a *arena.Arena, r *row, base, unit, per int) *twin {
	t.Helper()
	c, err := New(a, base, unit, per)
	if err != api.OK || c == nil {
		t.Fatalf("New(%d, %d, %d) in %d bytes: %v, %d", base, unit, per, a.Size(), c, err)
	}
	w := &twin{t, a, r, c, &plain{r, base, unit, per, -1}}
	w.same("New")
	return w
}

// fresh makes both in an arena of their own, that is full of noise.
func fresh(t *testing.T, size, base, unit, per int) *twin {
	t.Helper()
	a, r := arenaOf(t, noise(size))
	return twinIn(t, a, r, base, unit, per)
}

// same holds against each other all that can be told without going along the chain.
func (w *twin) same(what string) {
	w.Helper()
	if got := w.a.Touched(); !slices.Equal(got, w.r.touches) {
		w.Fatalf("%s: touched %v, wanted %v", what, got, w.r.touches)
	}
	if got, _ := w.a.Read(0, w.a.Size()); got != string(w.r.bytes) {
		w.Fatalf("%s: the arena has\n%x, wanted\n%x", what, got, w.r.bytes)
	}
	w.a.Forget()
	w.r.touches = nil
	if got := w.c.Empty(); got != (w.p.head == -1) {
		w.Fatalf("%s: Empty is %v, the head is %d", what, got, w.p.head)
	}
}

func (w *twin) push(k int) api.Errno {
	w.Helper()
	got, want := w.c.Push(k), w.p.push(k)
	if got != want {
		w.Fatalf("Push(%d): %d, wanted %d", k, got, want)
	}
	w.same(fmt.Sprintf("Push(%d)", k))
	return got
}

func (w *twin) pop() (int, api.Errno) {
	w.Helper()
	got, err := w.c.Pop()
	want, wantErr := w.p.pop()
	if got != want || err != wantErr {
		w.Fatalf("Pop: %d, %d, wanted %d, %d", got, err, want, wantErr)
	}
	w.same("Pop")
	return got, err
}

func (w *twin) all() ([]int, api.Errno) {
	w.Helper()
	got, err := w.c.All()
	want, wantErr := w.p.all()
	if !slices.Equal(got, want) || err != wantErr {
		w.Fatalf("All: %v, %d, wanted %v, %d", got, err, want, wantErr)
	}
	w.same("All")
	return got, err
}

func (w *twin) take(d *twin) api.Errno {
	w.Helper()
	got, want := w.c.Take(d.c), w.p.take(d.p)
	if got != want {
		w.Fatalf("Take: %d, wanted %d", got, want)
	}
	w.same("Take")
	d.same("Take of it")
	return got
}

func (w *twin) move(base int) api.Errno {
	w.Helper()
	got, want := w.c.Move(base), w.p.move(base)
	if got != want {
		w.Fatalf("Move(%d): %d, wanted %d", base, got, want)
	}
	w.same(fmt.Sprintf("Move(%d)", base))
	return got
}

// overwrite puts a word where a block begins, as somebody else might.
func (w *twin) overwrite(k int, v uint64) {
	w.Helper()
	at := w.p.base + k*w.p.unit
	if err := w.a.Store(at, v); err != api.OK {
		w.Fatalf("Store(%d): %d", at, err)
	}
	w.r.store(at, v)
	w.same("overwrite")
}

// copied is a copy in an arena of its own that has the same bytes.
func (w *twin) copied() *twin {
	w.Helper()
	a, r := arenaOf(w.T, string(w.r.bytes))
	p := *w.p
	p.row = r
	other := &twin{w.T, a, r, w.c.Copy(a), &p}
	other.same("Copy, the new one")
	w.same("Copy, the old one")
	return other
}

// goesOn holds against each other what comes of a copy: All, and all that can be popped of it.
func (w *twin) goesOn() {
	w.Helper()
	w.all()
	other := w.copied()
	for range 2*other.p.per + 2 {
		if _, err := other.pop(); err != api.OK {
			break
		}
	}
	other.all()
	w.same("a copy went on")
}

// pushes wants all of them to be pushed.
func (w *twin) pushes(ks ...int) {
	w.Helper()
	for _, k := range ks {
		if err := w.push(k); err != api.OK {
			w.Fatalf("Push(%d): %d", k, err)
		}
	}
}

// pops wants just these to be popped, one after the other.
func (w *twin) pops(ks ...int) {
	w.Helper()
	for i, want := range ks {
		if got, err := w.pop(); got != want || err != api.OK {
			w.Fatalf("pop %d: %d, %d, wanted %d", i, got, err, want)
		}
	}
}

// allAre wants All to answer just these.
func (w *twin) allAre(ks ...int) {
	w.Helper()
	if got, err := w.all(); !slices.Equal(got, ks) || err != api.OK {
		w.Fatalf("All: %v, %d, wanted %v", got, err, ks)
	}
}

// linkIs asks the plain bytes, which were held against the arena's.
func (w *twin) linkIs(k int, want uint64) {
	w.Helper()
	if got := binary.LittleEndian.Uint64(w.r.bytes[w.p.base+k*w.p.unit:]); got != want {
		w.Fatalf("the link of %d is %d, wanted %d", k, got, want)
	}
}

// refuses wants an error, and nothing to be touched or changed.
func (w *twin) refuses(what string, want api.Errno, call func() api.Errno) {
	w.Helper()
	if got := call(); got != want {
		w.Fatalf("%s: %d, wanted %d", what, got, want)
	}
	w.same(what)
	w.goesOn()
}

func upTo(n int) []int {
	var out []int
	for k := range n {
		out = append(out, k)
	}
	return out
}

func reversed(ks []int) []int {
	out := slices.Clone(ks)
	slices.Reverse(out)
	return out
}

func wantNew(t *testing.T, a *arena.Arena, base, unit, per int, want api.Errno) {
	t.Helper()
	c, err := New(a, base, unit, per)
	if err != want || (c != nil) != (want == api.OK) {
		t.Fatalf("New(%d, %d, %d) in %d bytes: %v, %d, wanted %d", base, unit, per, a.Size(), c, err, want)
	}
	if spans := a.Touched(); len(spans) != 0 {
		t.Fatalf("New(%d, %d, %d) touched %v", base, unit, per, spans)
	}
	if c == nil {
		return
	}
	if all, err := c.All(); !c.Empty() || len(all) != 0 || err != api.OK {
		t.Fatalf("New(%d, %d, %d): empty %v, all %v, %d", base, unit, per, c.Empty(), all, err)
	}
}

// P11.1

func TestNewOfEveryUnitAndNumber(t *testing.T) {
	a, _ := arenaOf(t, noise(512*65+1))
	for unit := -1; unit <= 515; unit++ {
		for per := -1; per <= 67; per++ {
			want := api.ErrArg
			if unit >= 8 && unit <= 512 && per >= 1 && per <= 64 {
				want = api.OK
			}
			wantNew(t, a, 0, unit, per, want)
		}
	}
}

func TestNewOfFarNumbers(t *testing.T) {
	a, _ := arenaOf(t, noise(1<<16))
	for _, x := range far {
		for _, right := range []int{8, 64} {
			wantNew(t, a, 0, x, right, api.ErrArg)
			wantNew(t, a, 0, right, x, api.ErrArg)
			wantNew(t, a, x, right, right, api.ErrArg)
			wantNew(t, a, x, x, right, api.ErrArg)
			wantNew(t, a, right, x, x, api.ErrArg)
		}
		wantNew(t, a, x, x, x, api.ErrArg)
	}
	// Together they would be 512 bytes, or wrap round to few.
	wantNew(t, a, 0, -8, -64, api.ErrArg)
	wantNew(t, a, 0, 1<<62, 4, api.ErrArg)
	wantNew(t, a, 0, 4, 1<<62, api.ErrArg)
}

func TestNewOfBlocksThatJustLieWithin(t *testing.T) {
	for _, unit := range []int{8, 9, 16, 100, 256, 511, 512} {
		for _, per := range []int{1, 2, 7, 32, 63, 64} {
			for _, base := range []int{0, 1, 7, 8, 512, 1000} {
				a, _ := arenaOf(t, noise(base+unit*per))
				wantNew(t, a, base, unit, per, api.OK)
				wantNew(t, a, base+1, unit, per, api.ErrArg)
				wantNew(t, a, -1, unit, per, api.ErrArg)
				wantNew(t, a, -base-unit*per, unit, per, api.ErrArg)
				short, _ := arenaOf(t, noise(base+unit*per-1))
				wantNew(t, short, base, unit, per, api.ErrArg)
			}
		}
	}
}

func TestNewAtBasesOfASmallArena(t *testing.T) {
	for size := range 50 {
		a, _ := arenaOf(t, noise(size))
		for base := -10; base <= 60; base++ {
			for unit := 7; unit <= 17; unit++ {
				for per := range 4 {
					want := api.ErrArg
					if unit >= 8 && per >= 1 && base >= 0 && base+unit*per <= size {
						want = api.OK
					}
					wantNew(t, a, base, unit, per, want)
				}
			}
		}
	}
}

func TestNewInTheGreatestArena(t *testing.T) {
	a, err := arena.New(1 << 21)
	if err != api.OK {
		t.Fatal(err)
	}
	wantNew(t, a, 1<<21-512*64, 512, 64, api.OK)
	wantNew(t, a, 1<<21-512*64+1, 512, 64, api.ErrArg)
	wantNew(t, a, 1<<21-8, 8, 1, api.OK)
	wantNew(t, a, 1<<21-7, 8, 1, api.ErrArg)
	wantNew(t, a, 1<<21, 8, 1, api.ErrArg)
}

func TestNewWithoutArena(t *testing.T) {
	wantNew(t, nil, 0, 8, 1, api.ErrNil)
	// That there is none is told ahead of all else.
	for _, x := range append([]int{0, 7, 65, 513}, far...) {
		wantNew(t, nil, x, 8, 1, api.ErrNil)
		wantNew(t, nil, 0, x, 1, api.ErrNil)
		wantNew(t, nil, 0, 8, x, api.ErrNil)
		wantNew(t, nil, x, x, x, api.ErrNil)
	}
	wantNew(t, new(arena.Arena), 0, 8, 1, api.ErrArg)
	empty, _ := arenaOf(t, "")
	wantNew(t, empty, 0, 8, 1, api.ErrArg)
}

func TestEmptyStepByStep(t *testing.T) {
	w := fresh(t, 64, 0, 16, 4)
	empty := func(want bool) {
		t.Helper()
		if w.c.Empty() != want {
			t.Fatalf("Empty: %v", !want)
		}
		w.same("Empty")
	}
	empty(true)
	w.push(0)
	empty(false)
	w.push(3)
	empty(false)
	w.pop()
	empty(false)
	w.pop()
	empty(true)
	w.pop()
	empty(true)
	w.push(4)
	empty(true)
}

// P11.2

func TestPushSaysTheHead(t *testing.T) {
	w := fresh(t, 200, 3, 16, 12)
	w.pushes(0)
	w.linkIs(0, 0)
	w.pushes(11)
	w.linkIs(11, 1)
	w.pushes(5)
	w.linkIs(5, 12)
	w.linkIs(11, 1)
	w.linkIs(0, 0)
	w.allAre(5, 11, 0)
}

func TestPushTouchesOneWord(t *testing.T) {
	a, _ := arenaOf(t, noise(100))
	c, err := New(a, 10, 9, 10)
	if err != api.OK {
		t.Fatal(err)
	}
	for _, k := range []int{9, 0, 4} {
		if err := c.Push(k); err != api.OK {
			t.Fatal(err)
		}
		if got := a.Touched(); !slices.Equal(got, []api.Span{{At: 10 + 9*k, N: 8, Wrote: true}}) {
			t.Fatalf("Push(%d) touched %v", k, got)
		}
		a.Forget()
	}
}

func TestPopTouchesOneWordTwice(t *testing.T) {
	a, _ := arenaOf(t, noise(100))
	c, err := New(a, 10, 9, 10)
	if err != api.OK {
		t.Fatal(err)
	}
	for _, k := range []int{9, 0, 4} {
		c.Push(k)
	}
	a.Forget()
	for _, k := range []int{4, 0, 9} {
		if got, err := c.Pop(); got != k || err != api.OK {
			t.Fatalf("Pop: %d, %d, wanted %d", got, err, k)
		}
		if got := a.Touched(); !slices.Equal(got, []api.Span{{At: 10 + 9*k, N: 8}, {At: 10 + 9*k, N: 8, Wrote: true}}) {
			t.Fatalf("Pop of %d touched %v", k, got)
		}
		a.Forget()
	}
}

func TestPushOfWrongBlocks(t *testing.T) {
	for _, per := range []int{1, 2, 5, 64} {
		for _, before := range [][]int{nil, {0}, {per - 1}, upTo(per)} {
			w := fresh(t, 8*70, 16, 8, per)
			w.pushes(before...)
			for _, k := range append([]int{-1, per, per + 1, per + 8, -per}, far...) {
				w.refuses(fmt.Sprintf("Push(%d) of %d", k, per), api.ErrArg, func() api.Errno { return w.c.Push(k) })
			}
			w.pushes(0, per-1)
		}
	}
}

func TestChainOfOneBlock(t *testing.T) {
	for _, unit := range []int{8, 9, 512} {
		w := fresh(t, unit, 0, unit, 1)
		for range 3 {
			w.pushes(0)
			w.linkIs(0, 0)
			w.allAre(0)
			w.refuses("Push(1)", api.ErrArg, func() api.Errno { return w.c.Push(1) })
			w.pops(0)
			w.linkIs(0, 0)
			w.allAre()
			w.refuses("Pop", api.ErrNone, func() api.Errno { _, err := w.c.Pop(); return err })
		}
	}
}

func TestChainOfAllBlocks(t *testing.T) {
	for _, unit := range []int{8, 11, 16, 512} {
		for _, per := range []int{2, 3, 31, 32, 63, 64} {
			w := fresh(t, unit*per+5, 5, unit, per)
			for _, order := range [][]int{upTo(per), reversed(upTo(per)), rand.New(rand.NewSource(int64(per))).Perm(per)} {
				w.pushes(order...)
				for i, k := range order {
					if i == 0 {
						w.linkIs(k, 0)
					} else {
						w.linkIs(k, uint64(order[i-1]+1))
					}
				}
				w.allAre(reversed(order)...)
				w.pops(reversed(order)...)
				for k := range per {
					w.linkIs(k, 0)
				}
				w.allAre()
			}
		}
	}
}

func TestPopWithoutHead(t *testing.T) {
	w := fresh(t, 100, 4, 16, 6)
	none := func() {
		t.Helper()
		k, err := w.c.Pop()
		if k != 0 || err != api.ErrNone {
			t.Fatalf("Pop: %d, %d", k, err)
		}
		w.same("Pop of none")
	}
	none()
	w.pushes(5)
	w.pops(5)
	none()
	none()
	w.pushes(3, 2)
	w.pops(2, 3)
	none()
}

// wrongLinks are above per; the lower bits of some are not.
func wrongLinks(per int) []uint64 {
	n := uint64(per)
	return []uint64{n + 1, n + 2, 2*n + 1, 255, 256, 1 << 16, 1<<16 + 1, 1 << 31, 1 << 32, 1<<32 + 1, 1<<32 + n, 1 << 62, 1<<63 - 1, 1 << 63, 1<<63 + 1, 1<<63 + n, math.MaxUint64 - 1, math.MaxUint64}
}

func TestPopWhereTheLinkIsWrong(t *testing.T) {
	for _, per := range []int{1, 2, 4, 64} {
		for _, link := range wrongLinks(per) {
			w := fresh(t, 16*per+9, 9, 16, per)
			w.pushes(per-1, 0)
			w.overwrite(0, link)
			for range 2 {
				k, err := w.c.Pop()
				if k != 0 || err != api.ErrForm {
					t.Fatalf("per %d, link %d: Pop: %d, %d", per, link, k, err)
				}
				if got := w.a.Touched(); !slices.Equal(got, []api.Span{{At: 9, N: 8}}) {
					t.Fatalf("per %d, link %d: touched %v", per, link, got)
				}
				w.a.Forget()
				w.same("Pop of a wrong link")
			}
			w.linkIs(0, link)
			// The head is what it was: put right it goes on.
			w.overwrite(0, uint64(per))
			w.pops(0, per-1)
		}
	}
}

func TestPopWhereAnotherLinkIsWrong(t *testing.T) {
	for _, link := range wrongLinks(4) {
		w := fresh(t, 64, 0, 16, 4)
		w.pushes(3, 1, 2)
		w.overwrite(1, link)
		// Only the head's own link is asked for.
		w.pops(2)
		if k, err := w.pop(); k != 0 || err != api.ErrForm {
			t.Fatalf("link %d: %d, %d", link, k, err)
		}
		w.overwrite(1, 0)
		w.pops(1)
		w.refuses("Pop", api.ErrNone, func() api.Errno { _, err := w.c.Pop(); return err })
	}
}

func TestPopFollowsALinkThatMayBe(t *testing.T) {
	for _, per := range []int{1, 3, 64} {
		for link := 0; link <= per; link++ {
			w := fresh(t, 8*64, 0, 8, per)
			w.pushes(0)
			w.overwrite(0, uint64(link))
			w.pops(0)
			w.linkIs(0, 0)
			if w.c.Empty() != (link == 0) {
				t.Fatalf("link %d of %d: empty %v", link, per, w.c.Empty())
			}
			if link > 0 {
				w.overwrite(link-1, 0)
				w.pops(link - 1)
			}
			w.refuses("Pop", api.ErrNone, func() api.Errno { _, err := w.c.Pop(); return err })
		}
	}
}

func TestBlockPushedTwice(t *testing.T) {
	w := fresh(t, 64, 0, 16, 4)
	w.pushes(2, 2)
	w.linkIs(2, 3)
	if all, err := w.all(); len(all) != 0 || err != api.ErrForm {
		t.Fatalf("All: %v, %d", all, err)
	}
	// The first one leaves a link of 0 behind, and the head is the same block.
	w.pops(2, 2)
	w.allAre()
	w.pushes(1, 0, 1)
	if all, err := w.all(); len(all) != 0 || err != api.ErrForm {
		t.Fatalf("All: %v, %d", all, err)
	}
	w.pops(1, 0, 1)
	w.allAre()
	one := fresh(t, 8, 0, 8, 1)
	one.pushes(0, 0)
	if all, err := one.all(); len(all) != 0 || err != api.ErrForm {
		t.Fatalf("All: %v, %d", all, err)
	}
	one.pops(0, 0)
	one.allAre()
}

// P11.3

func TestAllTouchesEachLinkOnce(t *testing.T) {
	a, _ := arenaOf(t, noise(100))
	c, err := New(a, 10, 9, 10)
	if err != api.OK {
		t.Fatal(err)
	}
	for _, k := range []int{9, 0, 4} {
		c.Push(k)
	}
	a.Forget()
	if all, err := c.All(); !slices.Equal(all, []int{4, 0, 9}) || err != api.OK {
		t.Fatalf("All: %v, %d", all, err)
	}
	if got := a.Touched(); !slices.Equal(got, []api.Span{{At: 46, N: 8}, {At: 10, N: 8}, {At: 91, N: 8}}) {
		t.Fatalf("touched %v", got)
	}
}

func TestAllOfNone(t *testing.T) {
	w := fresh(t, 100, 4, 16, 6)
	w.allAre()
	w.pushes(1)
	w.pops(1)
	w.allAre()
}

func TestAllWhereALinkIsWrong(t *testing.T) {
	const per = 5
	for at := range per {
		for _, link := range wrongLinks(per) {
			w := fresh(t, 16*per, 0, 16, per)
			w.pushes(3, 0, 4, 2, 1)
			order, _ := w.all()
			w.overwrite(order[at], link)
			if all, err := w.all(); len(all) != 0 || err != api.ErrForm {
				t.Fatalf("All: %v, %d", all, err)
			}
			// Nothing has changed: put right it answers as before.
			next := uint64(0)
			if at+1 < per {
				next = uint64(order[at+1] + 1)
			}
			w.overwrite(order[at], next)
			w.allAre(order...)
		}
	}
}

func TestAllWhereALinkLeadsBack(t *testing.T) {
	for _, per := range []int{1, 2, 3, 6, 64} {
		for from := range per {
			for to := 0; to <= from; to++ {
				w := fresh(t, 8*per, 0, 8, per)
				order := reversed(upTo(per))[:from+1]
				w.pushes(reversed(order)...)
				w.overwrite(order[from], uint64(order[to]+1))
				w.c.All()
				if got := w.a.Touched(); len(got) != per {
					t.Fatalf("per %d, from %d to %d: %d touches", per, from, to, len(got))
				}
				w.a.Forget()
				if all, err := w.all(); len(all) != 0 || err != api.ErrForm {
					t.Fatalf("per %d, from %d to %d: %v, %d", per, from, to, all, err)
				}
				w.overwrite(order[from], 0)
				w.allAre(order...)
			}
		}
	}
}

func TestAllAsLinksWereWritten(t *testing.T) {
	const per = 3
	links := []uint64{0, 1, 2, 3, 4, math.MaxUint64}
	for head := range per {
		for _, x := range links {
			for _, y := range links {
				for _, z := range links {
					w := fresh(t, 8*per, 0, 8, per)
					w.pushes(head)
					w.overwrite(0, x)
					w.overwrite(1, y)
					w.overwrite(2, z)
					w.goesOn()
				}
			}
		}
	}
}

func TestAllIsNewMemory(t *testing.T) {
	w := fresh(t, 64, 0, 16, 4)
	w.pushes(1, 3, 2)
	first, _ := w.all()
	second, _ := w.all()
	for i := range first {
		first[i] = 99
	}
	if !slices.Equal(second, []int{2, 3, 1}) {
		t.Fatalf("the second is %v", second)
	}
	w.allAre(2, 3, 1)
	w.pops(2, 3, 1)
	if !slices.Equal(second, []int{2, 3, 1}) {
		t.Fatalf("the second is %v", second)
	}
}

func TestTake(t *testing.T) {
	for _, ks := range [][]int{{0}, {3}, {1, 2}, {3, 0, 2, 1}} {
		c := fresh(t, 100, 10, 16, 4)
		d := twinIn(t, c.a, c.r, 10, 16, 4)
		d.pushes(ks...)
		if err := c.take(d); err != api.OK {
			t.Fatal(err)
		}
		if c.c.Empty() || !d.c.Empty() {
			t.Fatalf("empty %v, %v", c.c.Empty(), d.c.Empty())
		}
		d.allAre()
		d.refuses("Pop", api.ErrNone, func() api.Errno { _, err := d.c.Pop(); return err })
		c.allAre(reversed(ks)...)
		// And back again.
		if err := d.take(c); err != api.OK {
			t.Fatal(err)
		}
		c.allAre()
		d.pops(reversed(ks)...)
		d.allAre()
	}
}

func TestTakeOfOneWithoutHead(t *testing.T) {
	c := fresh(t, 64, 0, 16, 4)
	d := twinIn(t, c.a, c.r, 0, 16, 4)
	if err := c.take(d); err != api.OK || !c.c.Empty() || !d.c.Empty() {
		t.Fatal(err)
	}
	c.pushes(1)
	c.pops(1)
	d.pushes(2)
	d.pops(2)
}

func TestTakeIntoOneThatHasAHead(t *testing.T) {
	for _, ks := range [][]int{nil, {0}, {2, 3}} {
		c := fresh(t, 200, 0, 16, 4)
		d := twinIn(t, c.a, c.r, 64, 16, 4)
		c.pushes(1, 0)
		d.pushes(ks...)
		c.refuses("Take", api.ErrThere, func() api.Errno { return c.c.Take(d.c) })
		d.same("Take of it")
		c.allAre(0, 1)
		d.allAre(reversed(ks)...)
	}
}

func TestTakeOfItself(t *testing.T) {
	w := fresh(t, 64, 0, 16, 4)
	if err := w.take(w); err != api.OK || !w.c.Empty() {
		t.Fatal(err)
	}
	w.pushes(2, 1)
	w.refuses("Take of itself", api.ErrThere, func() api.Errno { return w.c.Take(w.c) })
	w.pops(1, 2)
	if err := w.take(w); err != api.OK || !w.c.Empty() {
		t.Fatal(err)
	}
}

func TestTakeOfNone(t *testing.T) {
	w := fresh(t, 64, 0, 16, 4)
	w.refuses("Take of none", api.ErrNil, func() api.Errno { return w.c.Take(nil) })
	w.pushes(2, 1)
	// Two errors: that there is none comes first.
	w.refuses("Take of none into one with a head", api.ErrNil, func() api.Errno { return w.c.Take(nil) })
	w.pops(1, 2)
}

// Only the head is taken: what follows it is what stands in the taker's own blocks.
func TestTakeOfOneThatLiesElsewhere(t *testing.T) {
	c := fresh(t, 200, 0, 16, 4)
	d := twinIn(t, c.a, c.r, 100, 24, 4)
	c.pushes(0, 1, 2, 3)
	c.pops(3, 2, 1, 0)
	d.pushes(0, 3)
	if err := c.take(d); err != api.OK {
		t.Fatal(err)
	}
	c.allAre(3)
	d.linkIs(3, 1)
	c.pops(3)
	d.linkIs(3, 1)
	c.allAre()
}

// A head that is none of the taker's blocks is never touched.
func TestTakeOfOneWithMoreBlocks(t *testing.T) {
	for head := range 8 {
		c := fresh(t, 200, 0, 16, 3)
		d := twinIn(t, c.a, c.r, 64, 8, 8)
		for k := range 3 {
			c.overwrite(k, 0)
		}
		d.pushes(head)
		if err := c.take(d); err != api.OK {
			t.Fatal(err)
		}
		k, err := c.c.Pop()
		switch {
		case head < 3 && (k != head || err != api.OK):
			t.Fatalf("head %d: Pop: %d, %d", head, k, err)
		case head < 3:
			continue
		case k != 0 || err != api.ErrForm:
			t.Fatalf("head %d: Pop: %d, %d", head, k, err)
		}
		c.same("Pop of a block of another one")
		if all, err := c.all(); len(all) != 0 || err != api.ErrForm {
			t.Fatalf("head %d: All: %v, %d", head, all, err)
		}
		// Whose it is can have it again.
		if err := d.take(c); err != api.OK {
			t.Fatal(err)
		}
		d.pops(head)
		c.allAre()
	}
}

func TestMoveToEveryBase(t *testing.T) {
	for _, unit := range []int{8, 9, 16} {
		for _, per := range []int{1, 2, 4} {
			w := fresh(t, 80, 0, unit, per)
			for base := -3; base <= 90; base++ {
				want := api.ErrArg
				if base >= 0 && base+unit*per <= 80 {
					want = api.OK
				}
				if err := w.move(base); err != want {
					t.Fatalf("Move(%d): %d", base, err)
				}
				w.pushes(0, per-1)
				w.pops(per-1, 0)
			}
		}
	}
}

func TestMoveToFarBases(t *testing.T) {
	for _, ks := range [][]int{nil, {0}, {3, 1}} {
		w := fresh(t, 100, 20, 16, 4)
		w.pushes(ks...)
		for _, base := range append([]int{-1, 37, 100, 101}, far...) {
			w.refuses(fmt.Sprintf("Move(%d)", base), api.ErrArg, func() api.Errno { return w.c.Move(base) })
		}
		w.pops(reversed(ks)...)
		if err := w.move(36); err != api.OK {
			t.Fatal(err)
		}
		w.pushes(3)
	}
}

func TestMoveToWhereItsBytesLie(t *testing.T) {
	for _, to := range []int{64, 65, 100, 128} {
		w := fresh(t, 192, 0, 16, 4)
		w.pushes(2, 0, 3)
		w.a.Copy(to, 0, 64)
		w.a.Forget()
		copy(w.r.bytes[to:], w.r.bytes[:64])
		if err := w.move(to); err != api.OK {
			t.Fatal(err)
		}
		w.allAre(3, 0, 2)
		w.pops(3)
		w.pushes(1)
		w.pops(1, 0, 2)
		for k := range 4 {
			if k != 1 {
				w.linkIs(k, 0)
			}
		}
		// Where it lay all stands as it did.
		w.move(0)
		w.linkIs(3, 1)
		w.linkIs(0, 3)
		w.linkIs(2, 0)
	}
}

func TestMoveToWhereOthersDo(t *testing.T) {
	w := fresh(t, 128, 0, 16, 4)
	w.pushes(2, 0)
	d := twinIn(t, w.a, w.r, 64, 16, 4)
	d.pushes(3, 1, 0)
	if err := w.move(64); err != api.OK {
		t.Fatal(err)
	}
	// The head is kept, what follows it is what the bytes there say.
	w.allAre(0, 1, 3)
	w.pops(0)
	w.move(0)
	w.overwrite(1, 3)
	w.allAre(1, 2)
	w.linkIs(0, 3)
	noisy := fresh(t, 128, 0, 16, 4)
	noisy.pushes(1)
	noisy.move(64)
	if k, err := noisy.pop(); k != 0 || err != api.ErrForm {
		t.Fatalf("Pop: %d, %d", k, err)
	}
	noisy.move(0)
	noisy.pops(1)
}

func TestMoveToWhereItIs(t *testing.T) {
	w := fresh(t, 64, 0, 16, 4)
	w.pushes(2, 0)
	if err := w.move(0); err != api.OK {
		t.Fatal(err)
	}
	w.pops(0, 2)
}

// P11.4

func TestCopyOfWhichEitherGoesOn(t *testing.T) {
	for _, ks := range [][]int{nil, {2}, {0, 3, 1}} {
		for _, who := range []string{"the old one", "the new one", "both"} {
			w := fresh(t, 100, 10, 16, 4)
			w.pushes(ks...)
			d := w.copied()
			if who != "the new one" {
				w.pop()
				w.pushes(3)
				w.move(20)
				d.same("the old one went on")
				d.allAre(reversed(ks)...)
				w.move(10)
				w.pushes(2)
				w.pops(2, 3)
			}
			if who != "the old one" {
				d.pushes(2)
				d.pop()
				d.pop()
				d.move(36)
				d.pushes(1)
				w.same("the new one went on")
			}
			w.goesOn()
			d.goesOn()
		}
	}
}

func TestCopyTakesNothingFromTheOldOne(t *testing.T) {
	w := fresh(t, 64, 0, 16, 4)
	w.pushes(0, 2)
	d := w.copied()
	empty := twinIn(t, w.a, w.r, 0, 16, 4)
	empty.take(w)
	d.allAre(2, 0)
	other := twinIn(t, d.a, d.r, 0, 16, 4)
	other.take(d)
	empty.allAre(2, 0)
	other.allAre(2, 0)
	w.allAre()
	d.allAre()
}

func TestCopyInTheSameArena(t *testing.T) {
	w := fresh(t, 64, 0, 16, 4)
	w.pushes(0, 2)
	p := *w.p
	d := &twin{t, w.a, w.r, w.c.Copy(w.a), &p}
	d.same("Copy")
	// They have a head each, and the links in common.
	d.pushes(3)
	w.allAre(2, 0)
	d.allAre(3, 2, 0)
	w.pops(2)
	d.allAre(3, 2)
	w.allAre(0)
}

func TestCopyInAGreaterArena(t *testing.T) {
	w := fresh(t, 64, 0, 16, 4)
	w.pushes(0, 2)
	a, r := arenaOf(t, string(w.r.bytes)+noise(100))
	p := *w.p
	p.row = r
	d := &twin{t, a, r, w.c.Copy(a), &p}
	d.allAre(2, 0)
	if err := d.move(100); err != api.OK {
		t.Fatal(err)
	}
	w.refuses("Move(100)", api.ErrArg, func() api.Errno { return w.c.Move(100) })
	d.pushes(3)
	w.allAre(2, 0)
}

// Blocks that aren't in the new arena are refused by it, and nothing changes.
func TestCopyInASmallerArena(t *testing.T) {
	w := fresh(t, 64, 0, 16, 4)
	w.pushes(0, 3)
	a, _ := arenaOf(t, string(w.r.bytes[:40]))
	d := w.c.Copy(a)
	if k, err := d.Pop(); k != 0 || err != api.ErrRange {
		t.Fatalf("Pop: %d, %d", k, err)
	}
	if all, err := d.All(); len(all) != 0 || err != api.ErrRange {
		t.Fatalf("All: %v, %d", all, err)
	}
	if err := d.Push(3); err != api.ErrRange {
		t.Fatal(err)
	}
	for _, base := range []int{-1, 0, 1, 40} {
		if err := d.Move(base); err != api.ErrArg {
			t.Fatalf("Move(%d): %d", base, err)
		}
	}
	if spans := a.Touched(); len(spans) != 0 || d.Empty() {
		t.Fatalf("touched %v, empty %v", spans, d.Empty())
	}
	if err := d.Push(1); err != api.OK {
		t.Fatal(err)
	}
	if v, _ := a.Load(16); v != 4 {
		t.Fatalf("the link is %d", v)
	}
	w.pops(3, 0)
}

func TestCopyWithoutArena(t *testing.T) {
	w := fresh(t, 64, 0, 16, 4)
	w.pushes(0, 3)
	d := w.c.Copy(nil)
	if k, err := d.Pop(); k != 0 || err != api.ErrNil {
		t.Fatalf("Pop: %d, %d", k, err)
	}
	if all, err := d.All(); len(all) != 0 || err != api.ErrNil {
		t.Fatalf("All: %v, %d", all, err)
	}
	if err := d.Push(2); err != api.ErrNil {
		t.Fatal(err)
	}
	if err := d.Move(0); err != api.ErrArg {
		t.Fatal(err)
	}
	w.same("a copy without arena")
	e := twinIn(t, w.a, w.r, 0, 16, 4)
	if err := e.c.Take(d); err != api.OK {
		t.Fatal(err)
	}
	e.p.head = 3
	e.allAre(3, 0)
	w.allAre(3, 0)
}

func TestNil(t *testing.T) {
	var none *Chain
	w := fresh(t, 64, 0, 16, 4)
	w.pushes(1)
	for _, x := range append([]int{0, 1, 64}, far...) {
		if err := none.Push(x); err != api.ErrNil {
			t.Fatalf("Push(%d): %d", x, err)
		}
		if err := none.Move(x); err != api.ErrNil {
			t.Fatalf("Move(%d): %d", x, err)
		}
	}
	if k, err := none.Pop(); k != 0 || err != api.ErrNil {
		t.Fatalf("Pop: %d, %d", k, err)
	}
	if all, err := none.All(); len(all) != 0 || err != api.ErrNil {
		t.Fatalf("All: %v, %d", all, err)
	}
	if !none.Empty() {
		t.Fatal("not empty")
	}
	for _, d := range []*Chain{nil, none, w.c} {
		if err := none.Take(d); err != api.ErrNil {
			t.Fatalf("Take: %d", err)
		}
	}
	if none.Copy(nil) != nil || none.Copy(w.a) != nil {
		t.Fatal("a copy of none")
	}
	w.same("calls of none")
	w.allAre(1)
}

func TestZeroChain(t *testing.T) {
	w := fresh(t, 64, 0, 16, 4)
	c := new(Chain)
	if !c.Empty() {
		t.Fatal("not empty")
	}
	for _, x := range append([]int{0, 1, 64}, far...) {
		if err := c.Push(x); err != api.ErrArg {
			t.Fatalf("Push(%d): %d", x, err)
		}
		if err := c.Copy(w.a).Push(x); err != api.ErrArg {
			t.Fatalf("Push(%d): %d", x, err)
		}
		c.Move(x)
	}
	if k, err := c.Pop(); k != 0 || err != api.ErrNone {
		t.Fatalf("Pop: %d, %d", k, err)
	}
	if all, err := c.All(); len(all) != 0 || err != api.OK {
		t.Fatalf("All: %v, %d", all, err)
	}
	if err := w.c.Take(c); err != api.OK || !w.c.Empty() {
		t.Fatal(err)
	}
	w.pushes(2)
	if err := c.Take(w.c); err != api.OK || !w.c.Empty() {
		t.Fatal(err)
	}
	if k, err := c.Pop(); k != 0 || err != api.ErrForm {
		t.Fatalf("Pop: %d, %d", k, err)
	}
	if all, err := c.All(); len(all) != 0 || err != api.ErrForm {
		t.Fatalf("All: %v, %d", all, err)
	}
}

// P11.5

func TestPoppedInTheOtherOrder(t *testing.T) {
	for _, n := range []int{1, 2, 3, 4, 5} {
		permute(upTo(n), func(order []int) {
			w := fresh(t, 10*n+7, 7, 10, n)
			w.pushes(order...)
			w.pops(reversed(order)...)
			was := noise(10*n + 7)
			for i, b := range w.r.bytes {
				first := i >= 7 && (i-7)%10 < 8
				if first && b != 0 || !first && b != was[i] {
					t.Fatalf("%v: the byte %d is %d", order, i, b)
				}
			}
		})
	}
}

func permute(ks []int, each func([]int)) {
	if len(ks) == 0 {
		each(nil)
		return
	}
	for i := range ks {
		rest := slices.Delete(slices.Clone(ks), i, i+1)
		permute(rest, func(order []int) { each(append([]int{ks[i]}, order...)) })
	}
}

func TestEverySequence(t *testing.T) {
	calls := 9
	var counted int
	for code := range calls * calls * calls * calls * calls {
		c := fresh(t, 60, 4, 9, 3)
		d := twinIn(t, c.a, c.r, 4, 9, 3)
		for left := code; left > 0; left /= calls {
			sequenceCall(c, d, left%calls)
		}
		c.goesOn()
		d.goesOn()
		counted++
	}
	if counted != 59049 {
		t.Fatal(counted)
	}
}

func sequenceCall(c, d *twin, which int) {
	switch which {
	case 0:
		c.pop()
	case 1, 2, 3:
		c.push(which - 1)
	case 4:
		d.push(1)
	case 5:
		d.pop()
	case 6:
		c.take(d)
	case 7:
		d.take(c)
	case 8:
		c.move(60 - 27 + 4 - c.p.base)
	}
}

// Two chains without a block in common: whatever is done with one, the other one stays.
func TestWalksOfTwoApart(t *testing.T) {
	for seed := range int64(30) {
		r := rand.New(rand.NewSource(seed))
		unit, per := 8+r.Intn(20), 1+r.Intn(64)
		c := fresh(t, 7+2*unit*per, 3, unit, per)
		d := twinIn(t, c.a, c.r, 3+unit*per, unit, per)
		var cHas, dHas []int
		for range 300 {
			cHas = honest(c, cHas, r)
			dHas = honest(d, dHas, r)
		}
	}
}

// honest pushes what isn't there, or pops.
func honest(w *twin, has []int, r *rand.Rand) []int {
	w.Helper()
	k := r.Intn(w.p.per)
	switch {
	case r.Intn(5) == 0:
		w.allAre(reversed(has)...)
	case !slices.Contains(has, k) && r.Intn(3) > 0:
		w.pushes(k)
		return append(has, k)
	case len(has) > 0:
		w.pops(has[len(has)-1])
		return has[:len(has)-1]
	}
	return has
}

// Walks in which somebody else writes too, and chains of other forms take each other's heads.
func TestWalks(t *testing.T) {
	for seed := range int64(200) {
		r := rand.New(rand.NewSource(seed))
		size := 600 + r.Intn(200)
		a, plainRow := arenaOf(t, noise(size))
		var all []*twin
		for range 3 {
			unit, per := 8+r.Intn(12), 1+r.Intn(6)
			all = append(all, twinIn(t, a, plainRow, r.Intn(300), unit, per))
		}
		for range 300 {
			all = step(all, r, size)
		}
		for _, w := range all {
			w.goesOn()
		}
	}
}

func step(all []*twin, r *rand.Rand, size int) []*twin {
	w := all[r.Intn(len(all))]
	switch r.Intn(12) {
	case 0, 1, 2:
		w.push(r.Intn(w.p.per+2) - 1)
	case 3, 4, 5:
		w.pop()
	case 6:
		w.all()
	case 7, 8:
		w.take(all[r.Intn(len(all))])
	case 9:
		w.move(r.Intn(size+20) - 10)
	case 10:
		links := append(wrongLinks(w.p.per), 0, 0, 0, 1, uint64(w.p.per))
		w.overwrite(r.Intn(w.p.per), links[r.Intn(len(links))])
	case 11:
		// The copy must stand for the others too, which have this arena in common.
		p := *w.p
		all[slices.Index(all, w)] = &twin{w.T, w.a, w.r, w.c.Copy(w.a), &p}
	}
	return all
}

// The chapter's examples.
func TestExamples(t *testing.T) {
	a, err := arena.New(96)
	if err != api.OK {
		t.Fatal(err)
	}
	c, err := New(a, 32, 16, 4)
	if err != api.OK || c.Push(2) != api.OK || c.Push(0) != api.OK {
		t.Fatal(err)
	}
	wordIs := func(at int, want uint64) {
		t.Helper()
		if v, err := a.Load(at); v != want || err != api.OK {
			t.Fatalf("the word at %d is %d, %d", at, v, err)
		}
	}
	wordIs(64, 0)
	wordIs(32, 3)
	if all, err := c.All(); !slices.Equal(all, []int{0, 2}) || err != api.OK {
		t.Fatalf("All: %v, %d", all, err)
	}
	if k, err := c.Pop(); k != 0 || err != api.OK {
		t.Fatalf("Pop: %d, %d", k, err)
	}
	wordIs(32, 0)
}
