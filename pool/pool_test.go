package pool

import (
	"math"
	"math/rand"
	"slices"
	"testing"

	"garth/api"
)

// sizes are numbers of colours that may be: the least and the greatest, and some between, with fewer, as many and more of them than there are owners.
var sizes = []int{1, 2, 3, 4, 7, 8, 9, 16, 31, 32}

// nobodies are numbers that are no owner.
var nobodies = []int{-1, 8, -2, 9, -8, 16, 32, 255, 256, 1 << 32, 1<<32 + 1, -1 << 32, math.MinInt, math.MinInt + 1, math.MaxInt}

// below are numbers of colours below 0.
var below = []int{-1, -2, -8, -32, -1 << 32, math.MinInt, math.MinInt + 1}

// plain is a pool the plain way: for each colour its owner, or -1.
type plain []int

func (p plain) window(owner int) []int {
	var out []int
	for c, o := range p {
		if o == owner {
			out = append(out, c)
		}
	}
	return out
}

func (p plain) turn(colours []int, owner int) ([]int, api.Errno) {
	for _, c := range colours {
		p[c] = owner
	}
	return colours, api.OK
}

func (p plain) grant(owner, k int) ([]int, api.Errno) {
	switch {
	case owner < 0 || owner > 7 || k < 0:
		return nil, api.ErrArg
	case len(p.window(-1)) < k:
		return nil, api.ErrColours
	}
	return p.turn(p.window(-1)[:k], owner)
}

func (p plain) shrink(owner, k int) ([]int, api.Errno) {
	if owner < 0 || owner > 7 || k < 0 || len(p.window(owner)) < k {
		return nil, api.ErrArg
	}
	return p.turn(p.window(owner)[k:], -1)
}

func (p plain) drop(owner int) ([]int, api.Errno) {
	if owner < 0 || owner > 7 {
		return nil, api.ErrArg
	}
	return p.turn(p.window(owner), -1)
}

// fresh makes a pool, and a plain one beside it.
func fresh(t *testing.T, colours int) (*Pool, plain) {
	t.Helper()
	p, err := New(colours)
	if err != api.OK || p == nil {
		t.Fatalf("New(%d): %v, %d", colours, p, err)
	}
	w := make(plain, colours)
	for c := range w {
		w[c] = -1
	}
	return p, w
}

// noColours are numbers that are none of n colours.
func noColours(n int) []int {
	return []int{-1, n, -2, n + 1, -n, 2 * n, -32, n + 32, n + 64, n + 1<<32, -1 << 32, 1 << 40, math.MinInt, math.MaxInt}
}

// is holds all that a pool tells against the plain one.
func is(t *testing.T, p *Pool, w plain) {
	t.Helper()
	for owner := range 8 {
		if got, want := p.Window(owner), w.window(owner); !slices.Equal(got, want) {
			t.Fatalf("%v: Window(%d): %v, want %v", w, owner, got, want)
		}
	}
	for c, want := range w {
		if got := p.Owner(c); got != want {
			t.Fatalf("%v: Owner(%d): %d", w, c, got)
		}
	}
	if got, want := p.Free(), len(w.window(-1)); got != want {
		t.Fatalf("%v: Free: %d, want %d", w, got, want)
	}
	for _, c := range noColours(len(w)) {
		if got := p.Owner(c); got != -1 {
			t.Fatalf("%v: Owner(%d): %d", w, c, got)
		}
	}
	for _, owner := range nobodies {
		if got := p.Window(owner); len(got) != 0 {
			t.Fatalf("%v: Window(%d): %v", w, owner, got)
		}
	}
}

func like(t *testing.T, call string, owner, k int, got []int, err api.Errno, want []int, wantErr api.Errno) {
	t.Helper()
	if !slices.Equal(got, want) || err != wantErr {
		t.Fatalf("%s(%d, %d): %v, %d; want %v, %d", call, owner, k, got, err, want, wantErr)
	}
}

// grants grants out of both, and holds the answers against each other; so do shrinks and drops.
func grants(t *testing.T, p *Pool, w plain, owner, k int) []int {
	t.Helper()
	want, wantErr := w.grant(owner, k)
	got, err := p.Grant(owner, k)
	like(t, "Grant", owner, k, got, err, want, wantErr)
	return got
}

func shrinks(t *testing.T, p *Pool, w plain, owner, k int) []int {
	t.Helper()
	want, wantErr := w.shrink(owner, k)
	got, err := p.Shrink(owner, k)
	like(t, "Shrink", owner, k, got, err, want, wantErr)
	return got
}

func drops(t *testing.T, p *Pool, w plain, owner int) []int {
	t.Helper()
	want, wantErr := w.drop(owner)
	got, err := p.Drop(owner)
	like(t, "Drop", owner, 0, got, err, want, wantErr)
	return got
}

// brought makes a pool in which the colours are just those owners'; one owner at least must have none of them.
func brought(t *testing.T, owners plain) (*Pool, plain) {
	t.Helper()
	holder := 0
	for slices.Contains(owners, holder) {
		holder++
	}
	p, w := fresh(t, len(owners))
	for _, owner := range owners {
		if owner < 0 {
			owner = holder
		}
		grants(t, p, w, owner, 1)
	}
	drops(t, p, w, holder)
	if !slices.Equal(w, owners) {
		t.Fatalf("%v, want %v", w, owners)
	}
	is(t, p, w)
	return p, w
}

// states are all ways in which n colours may be owned by some owners, or nobody's.
func states(n int, owners ...int) []plain {
	if n == 0 {
		return []plain{nil}
	}
	var out []plain
	for _, s := range states(n-1, owners...) {
		for _, o := range append([]int{-1}, owners...) {
			out = append(out, append(slices.Clone(s), o))
		}
	}
	return out
}

// jumble does one call, any one, on both.
func jumble(t *testing.T, p *Pool, w plain, r *rand.Rand) []int {
	t.Helper()
	owner := r.Intn(10) - 1
	switch r.Intn(6) {
	case 0:
		return grants(t, p, w, owner, r.Intn(len(w)+3)-1)
	case 1, 2:
		return grants(t, p, w, owner, r.Intn(3))
	case 3:
		return shrinks(t, p, w, owner, r.Intn(len(w)+3)-1)
	case 4:
		return shrinks(t, p, w, owner, r.Intn(3))
	}
	return drops(t, p, w, owner)
}

// P8.1

func TestNewOfEveryNumber(t *testing.T) {
	for n := -70; n <= 4200; n++ {
		p, err := New(n)
		if may := n >= 1 && n <= 32; may && (p == nil || err != api.OK) || !may && (p != nil || err != api.ErrArg) {
			t.Fatalf("New(%d): %v, %d", n, p, err)
		}
	}
	for _, n := range []int{math.MinInt, math.MinInt + 1, math.MaxInt, 1<<32 + 1, 1<<32 + 32, -1<<32 + 1, 1 << 16, 1<<16 + 1, 1<<8 + 1} {
		if p, err := New(n); p != nil || err != api.ErrArg {
			t.Fatalf("New(%d): %v, %d", n, p, err)
		}
	}
}

func TestNewMakesAllNobodys(t *testing.T) {
	for n := 1; n <= 32; n++ {
		p, w := fresh(t, n)
		if p.Free() != n {
			t.Fatalf("%d colours: %d are free", n, p.Free())
		}
		is(t, p, w)
	}
}

func TestFirstAndLastColour(t *testing.T) {
	for _, n := range sizes {
		for owner := range 8 {
			p, w := fresh(t, n)
			grants(t, p, w, owner, n)
			if a, b, c, d := p.Owner(-1), p.Owner(0), p.Owner(n-1), p.Owner(n); a != -1 || b != owner || c != owner || d != -1 {
				t.Fatalf("%d colours of %d: %d, %d, %d, %d", n, owner, a, b, c, d)
			}
			if p.Free() != 0 || len(p.Window(owner)) != n {
				t.Fatalf("%d colours of %d: %d are free, %v", n, owner, p.Free(), p.Window(owner))
			}
			is(t, p, w)
		}
	}
}

func TestEveryOwnerHasItsWindow(t *testing.T) {
	p, w := fresh(t, 32)
	for owner := range 8 {
		grants(t, p, w, owner, owner)
		is(t, p, w)
	}
	if p.Free() != 4 || len(p.Window(0)) != 0 || !slices.Equal(p.Window(7), []int{21, 22, 23, 24, 25, 26, 27}) || p.Owner(21) != 7 || p.Owner(28) != -1 {
		t.Fatal(p.Free(), p.Window(0), p.Window(7), p.Owner(21), p.Owner(28))
	}
}

// P8.2

// TestEveryCallOfEveryState goes through all states of pools of up to 3 colours, and those of 5 that two owners may have: each call is done in each of them.
func TestEveryCallOfEveryState(t *testing.T) {
	all := states(5, 0, 7)
	for n := 1; n <= 3; n++ {
		all = append(all, states(n, 0, 1, 2, 3, 4, 5, 6, 7)...)
	}
	for _, state := range all {
		p, w := brought(t, state)
		for owner := -2; owner <= 9; owner++ {
			for k := -2; k <= len(w)+2; k++ {
				everyCall(t, p, w, owner, k)
			}
		}
	}
}

func everyCall(t *testing.T, p *Pool, w plain, owner, k int) {
	t.Helper()
	a, b := p.Copy(), slices.Clone(w)
	grants(t, a, b, owner, k)
	is(t, a, b)
	a, b = p.Copy(), slices.Clone(w)
	shrinks(t, a, b, owner, k)
	is(t, a, b)
	a, b = p.Copy(), slices.Clone(w)
	drops(t, a, b, owner)
	is(t, a, b)
}

func TestGrantOfAllThatNobodyHas(t *testing.T) {
	for _, n := range sizes {
		for had := range n + 1 {
			p, w := fresh(t, n)
			grants(t, p, w, 3, had)
			left := n - had
			for _, k := range []int{left + 1, left + 2, n + 1, 33, 1 << 32, math.MaxInt} {
				if got, err := p.Grant(5, k); len(got) != 0 || err != api.ErrColours {
					t.Fatalf("%d of %d are free: Grant(5, %d): %v, %d", left, n, k, got, err)
				}
				is(t, p, w)
			}
			if got, err := p.Grant(5, 0); len(got) != 0 || err != api.OK {
				t.Fatalf("Grant(5, 0): %v, %d", got, err)
			}
			is(t, p, w)
			if got := grants(t, p, w, 5, left); len(got) != left || p.Free() != 0 {
				t.Fatalf("Grant(5, %d): %v, %d are free", left, got, p.Free())
			}
			is(t, p, w)
			if got, err := p.Grant(5, 0); len(got) != 0 || err != api.OK {
				t.Fatalf("Grant(5, 0) of nothing: %v, %d", got, err)
			}
			if got, err := p.Grant(5, 1); len(got) != 0 || err != api.ErrColours {
				t.Fatalf("Grant(5, 1) of nothing: %v, %d", got, err)
			}
			is(t, p, w)
		}
	}
}

func TestShrinkToAllThatAnOwnerHas(t *testing.T) {
	for _, n := range sizes {
		for had := range n + 1 {
			for keep := range had + 1 {
				p, w := fresh(t, n)
				grants(t, p, w, 6, had)
				for _, k := range []int{had + 1, had + 2, 33 + had, 1 << 32, math.MaxInt} {
					if got, err := p.Shrink(6, k); len(got) != 0 || err != api.ErrArg {
						t.Fatalf("it has %d: Shrink(6, %d): %v, %d", had, k, got, err)
					}
				}
				if got, err := p.Shrink(6, had); len(got) != 0 || err != api.OK {
					t.Fatalf("it has %d: Shrink(6, %d): %v, %d", had, had, got, err)
				}
				is(t, p, w)
				shrinks(t, p, w, 6, keep)
				if len(p.Window(6)) != keep || p.Free() != n-keep {
					t.Fatalf("it keeps %v, %d are free", p.Window(6), p.Free())
				}
				is(t, p, w)
			}
		}
	}
}

func TestLowerColoursCameBackAmidTakenOnes(t *testing.T) {
	p, w := fresh(t, 8)
	for c := range 8 {
		grants(t, p, w, c%4, 1)
	}
	drops(t, p, w, 1)
	drops(t, p, w, 3)
	// Nobody has 1 3 5 7 now.
	if got := grants(t, p, w, 2, 3); !slices.Equal(got, []int{1, 3, 5}) || !slices.Equal(p.Window(2), []int{1, 2, 3, 5, 6}) {
		t.Fatal(got, p.Window(2))
	}
	if got := shrinks(t, p, w, 2, 2); !slices.Equal(got, []int{3, 5, 6}) || !slices.Equal(p.Window(2), []int{1, 2}) {
		t.Fatal(got, p.Window(2))
	}
	if got := grants(t, p, w, 7, 3); !slices.Equal(got, []int{3, 5, 6}) {
		t.Fatal(got)
	}
	if got := grants(t, p, w, 7, 1); !slices.Equal(got, []int{7}) {
		t.Fatal(got)
	}
	is(t, p, w)
}

func TestLowestIsGrantedBelowWhatAnOwnerHas(t *testing.T) {
	for _, n := range sizes[2:] {
		p, w := fresh(t, n)
		grants(t, p, w, 1, n-1)
		grants(t, p, w, 0, 1)
		// What it has is the last colour, and all that it is granted now lies below.
		for keep := n - 2; keep >= 0; keep-- {
			shrinks(t, p, w, 1, keep)
			if got := grants(t, p, w, 0, 1); !slices.Equal(got, []int{keep}) || p.Window(0)[0] != keep {
				t.Fatalf("%v, %v", got, p.Window(0))
			}
			is(t, p, w)
		}
		if got := drops(t, p, w, 0); len(got) != n || !slices.IsSorted(got) {
			t.Fatal(got)
		}
	}
}

func TestGrantedAgainAndAgain(t *testing.T) {
	for _, n := range sizes {
		p, w := fresh(t, n)
		for c := range n {
			if got := grants(t, p, w, 0, 1); !slices.Equal(got, []int{c}) || len(p.Window(0)) != c+1 || p.Free() != n-c-1 {
				t.Fatalf("%v, %v, %d are free", got, p.Window(0), p.Free())
			}
			is(t, p, w)
		}
		if got := shrinks(t, p, w, 0, 1); len(got) != n-1 {
			t.Fatal(got)
		}
		for range 3 {
			grants(t, p, w, 0, n-1)
			is(t, p, w)
			shrinks(t, p, w, 0, n/2)
			is(t, p, w)
			drops(t, p, w, 0)
			grants(t, p, w, 0, 1)
			is(t, p, w)
		}
	}
}

func TestOwnerThatHasNone(t *testing.T) {
	for _, n := range sizes {
		p, w := fresh(t, n)
		grants(t, p, w, 4, n/2)
		for _, owner := range []int{0, 3, 5, 7} {
			if got, err := p.Drop(owner); len(got) != 0 || err != api.OK {
				t.Fatalf("Drop(%d): %v, %d", owner, got, err)
			}
			if got, err := p.Shrink(owner, 0); len(got) != 0 || err != api.OK {
				t.Fatalf("Shrink(%d, 0): %v, %d", owner, got, err)
			}
			if got, err := p.Shrink(owner, 1); len(got) != 0 || err != api.ErrArg {
				t.Fatalf("Shrink(%d, 1): %v, %d", owner, got, err)
			}
			is(t, p, w)
		}
		drops(t, p, w, 4)
		if got, err := p.Drop(4); len(got) != 0 || err != api.OK {
			t.Fatalf("Drop(4) twice: %v, %d", got, err)
		}
		is(t, p, w)
	}
}

func TestWrongInputsAreToldFirst(t *testing.T) {
	for _, n := range sizes {
		p, w := fresh(t, n)
		grants(t, p, w, 0, (n+1)/2)
		for _, owner := range nobodies {
			for _, k := range append(slices.Clone(below), 0, 1, n, n+1, math.MaxInt) {
				wrong(t, p, w, owner, k)
			}
			if got, err := p.Drop(owner); len(got) != 0 || err != api.ErrArg {
				t.Fatalf("Drop(%d): %v, %d", owner, got, err)
			}
		}
		for owner := range 8 {
			for _, k := range below {
				wrong(t, p, w, owner, k)
			}
		}
	}
}

// wrong: both calls that take a number answer ErrArg, and leave all as it is.
func wrong(t *testing.T, p *Pool, w plain, owner, k int) {
	t.Helper()
	if got, err := p.Grant(owner, k); len(got) != 0 || err != api.ErrArg {
		t.Fatalf("Grant(%d, %d): %v, %d", owner, k, got, err)
	}
	if got, err := p.Shrink(owner, k); len(got) != 0 || err != api.ErrArg {
		t.Fatalf("Shrink(%d, %d): %v, %d", owner, k, got, err)
	}
	is(t, p, w)
}

// spoil writes into all of a list, its spare room too.
func spoil(list []int) {
	list = list[:cap(list)]
	for i := range list {
		list[i] = 99
	}
}

func TestAnswersAreTheCallers(t *testing.T) {
	for i, n := range sizes {
		p, w := fresh(t, n)
		r := rand.New(rand.NewSource(int64(i)))
		for range 500 {
			spoil(jumble(t, p, w, r))
			for owner := range 8 {
				spoil(p.Window(owner))
			}
			is(t, p, w)
		}
	}
}

func TestAnswersStayWhileThePoolGoesOn(t *testing.T) {
	for i, n := range sizes {
		p, w := fresh(t, n)
		r := rand.New(rand.NewSource(int64(i)))
		var had, told [][]int
		for range 200 {
			for _, list := range [][]int{jumble(t, p, w, r), p.Window(r.Intn(8))} {
				had = append(had, list)
				told = append(told, slices.Clone(list))
			}
		}
		for j, list := range had {
			if !slices.Equal(list, told[j]) {
				t.Fatalf("%d colours: %v was %v", n, list, told[j])
			}
		}
	}
}

// TestJumbles runs calls in jumbles beside the plain pool.
func TestJumbles(t *testing.T) {
	for n := 1; n <= 32; n++ {
		p, w := fresh(t, n)
		r := rand.New(rand.NewSource(int64(n)))
		for range 600 {
			jumble(t, p, w, r)
			is(t, p, w)
		}
	}
}

// P8.3

func TestEitherCopyGoesOn(t *testing.T) {
	for i, n := range sizes {
		r := rand.New(rand.NewSource(int64(i)))
		for range 20 {
			a, wa := fresh(t, n)
			for range r.Intn(30) {
				jumble(t, a, wa, r)
			}
			b, wb := a.Copy(), slices.Clone(wa)
			if b == nil || b == a {
				t.Fatalf("%p is a copy of %p", b, a)
			}
			is(t, b, wb)
			for range 10 {
				jumble(t, a, wa, r)
				is(t, b, wb)
			}
			is(t, a, wa)
			for range 10 {
				jumble(t, b, wb, r)
				is(t, a, wa)
			}
			is(t, b, wb)
		}
	}
}

// TestCopyOfAWindowWithSpareRoom: a window that was shrunk may have room that both would write into.
func TestCopyOfAWindowWithSpareRoom(t *testing.T) {
	for _, keep := range []int{0, 1, 2} {
		a, wa := fresh(t, 8)
		grants(t, a, wa, 0, 5)
		shrinks(t, a, wa, 0, keep)
		b, wb := a.Copy(), slices.Clone(wa)
		grants(t, a, wa, 1, 2)
		grants(t, a, wa, 0, 2)
		grants(t, b, wb, 0, 3)
		is(t, a, wa)
		is(t, b, wb)
	}
}

func TestNilPool(t *testing.T) {
	var p *Pool
	for _, owner := range append(slices.Clone(nobodies), 0, 1, 7) {
		for _, k := range append(slices.Clone(below), 0, 1, 32, math.MaxInt) {
			if got, err := p.Grant(owner, k); len(got) != 0 || err != api.ErrNil {
				t.Errorf("Grant(%d, %d): %v, %d", owner, k, got, err)
			}
			if got, err := p.Shrink(owner, k); len(got) != 0 || err != api.ErrNil {
				t.Errorf("Shrink(%d, %d): %v, %d", owner, k, got, err)
			}
		}
		if got, err := p.Drop(owner); len(got) != 0 || err != api.ErrNil {
			t.Errorf("Drop(%d): %v, %d", owner, got, err)
		}
		if got := p.Window(owner); len(got) != 0 {
			t.Errorf("Window(%d): %v", owner, got)
		}
	}
	for _, c := range append(noColours(32), 0, 1, 31) {
		if got := p.Owner(c); got != -1 {
			t.Errorf("Owner(%d): %d", c, got)
		}
	}
	if p.Free() != 0 || p.Copy() != nil {
		t.Error(p.Free(), p.Copy())
	}
}

func TestPoolThatNobodyMadeHasNothing(t *testing.T) {
	for _, p := range []*Pool{new(Pool), new(Pool).Copy()} {
		is(t, p, plain{})
		for owner := -1; owner <= 8; owner++ {
			for k := -1; k <= 2; k++ {
				everyCall(t, p, plain{}, owner, k)
			}
		}
	}
}

func TestTwoPoolsNeverMeet(t *testing.T) {
	for _, n := range sizes {
		a, wa := fresh(t, n)
		b, wb := fresh(t, n)
		grants(t, a, wa, 0, n)
		is(t, b, wb)
		grants(t, b, wb, 7, n)
		is(t, a, wa)
	}
}

// P8.4

func TestEachColourIsInOnePlace(t *testing.T) {
	for n := 1; n <= 32; n++ {
		p, w := fresh(t, n)
		r := rand.New(rand.NewSource(int64(n)))
		for range 300 {
			jumble(t, p, w, r)
			once(t, p, n)
		}
	}
}

// once asks the pool alone: each colour is in one window, or nobody's, and there are no others.
func once(t *testing.T, p *Pool, n int) {
	t.Helper()
	owners := make([]int, n)
	for c := range owners {
		owners[c] = -1
	}
	owned := 0
	for owner := range 8 {
		window := p.Window(owner)
		for i, c := range window {
			if c < 0 || c >= n || owners[c] != -1 || i > 0 && window[i-1] >= c {
				t.Fatalf("%d colours: Window(%d): %v; owners %v", n, owner, window, owners)
			}
			owners[c] = owner
			owned++
		}
	}
	if owned+p.Free() != n {
		t.Fatalf("%d colours: %d are owned, %d are free", n, owned, p.Free())
	}
	for c, want := range owners {
		if got := p.Owner(c); got != want {
			t.Fatalf("%d colours: Owner(%d): %d, want %d", n, c, got, want)
		}
	}
	// What is nobody's can be had, all of it.
	rest, err := p.Copy().Grant(0, p.Free())
	if err != api.OK {
		t.Fatalf("%d colours: Grant(0, %d): %d", n, p.Free(), err)
	}
	for _, c := range rest {
		if owners[c] != -1 {
			t.Fatalf("%d colours: %d is granted, which is %d's", n, c, owners[c])
		}
	}
}

// The chapter's examples.

func TestExamples(t *testing.T) {
	p, _ := fresh(t, 4)
	check := func(got []int, err api.Errno) func(wantErr api.Errno, want ...int) {
		return func(wantErr api.Errno, want ...int) {
			t.Helper()
			if !slices.Equal(got, want) || err != wantErr {
				t.Fatalf("%v, %d; want %v, %d", got, err, want, wantErr)
			}
		}
	}
	check(p.Grant(0, 2))(api.OK, 0, 1)
	check(p.Grant(1, 1))(api.OK, 2)
	check(p.Drop(0))(api.OK, 0, 1)
	check(p.Grant(2, 3))(api.OK, 0, 1, 3)
	check(p.Grant(3, 1))(api.ErrColours)
	check(p.Shrink(2, 1))(api.OK, 1, 3)
}
