package service

import (
	"math/rand"
	"slices"
	"testing"

	"garth/api"
)

// sizes are one of each kind of small blocks, and runs of one page, of a few, and the longest.
var sizes = []int{16, 30, 48, 50, 96, 100, 192, 200, 512, 513, 1500, 8192}

// settled has tenants with blocks of each kind, of which some were given back, with shares, and numbers whose tenants are gone, and there again.
func settled(t *testing.T) (*house, map[int][]uint64) {
	t.Helper()
	h := built(t, 1120, 4)
	own := map[int][]uint64{}
	h.done(create(0, 1, 14000))
	h.done(create(1, 1, 14000))
	h.done(create(3, 1, 500))
	for i, n := range sizes {
		own[0] = append(own[0], h.filled(0, n, i))
		own[1] = append(own[1], h.filled(1, sizes[len(sizes)-1-i], i))
	}
	for range 5 {
		own[0] = append(own[0], h.filled(0, 20, 5), h.filled(0, 60, 6))
	}
	h.filled(3, 40, 9)
	h.filled(3, 300-44, 9)
	h.done(destroy(3))
	h.done(create(3, 1, 300))
	own[3] = append(own[3], h.filled(3, 40, 8))
	h.done(destroy(1))
	h.done(create(1, 2, 9000))
	own[1] = nil
	for i, n := range sizes[:9] {
		own[1] = append(own[1], h.filled(1, n, i+1))
	}
	own[1] = append(own[1], h.done(restrict(1, own[1][2], api.MayRead)).Handle, h.done(restrict(1, own[1][3], api.MayFree)).Handle)
	// So that blocks of several pages stand in their chains, not in the order in which they were had.
	for _, k := range []int{15, 12, 19, 14, 1} {
		h.done(free(0, own[0][k]))
	}
	h.done(free(1, own[1][0]))
	h.done(resize(1, 1, 9000))
	return h, own
}

// rest are operations that show what is to be told: blocks out of each chain, slots and serials, and all bytes.
func rest(own map[int][]uint64) []api.Op {
	var ops []api.Op
	for _, id := range []int{0, 1, 3} {
		for _, x := range own[id] {
			ops = append(ops, read(id, x, 0, 16), usable(id, x), write(id, x, 3, "abc"))
		}
		for _, n := range []int{20, 20, 20, 60, 60, 16, 48, 512, 513} {
			ops = append(ops, malloc(id, n))
		}
		for _, x := range own[id] {
			ops = append(ops, restrict(id, x, 1), realloc(id, x, 33), free(id, x))
		}
	}
	return append(ops, create(2, 1, 100), create(5, 1, 10), resize(1, 2, 9500), malloc(1, 100), destroy(3), create(3, 1, 100), malloc(3, 40), destroy(0), malloc(1, 10), resize(3, 2, 200), api.Op{Kind: 12})
}

func TestCopyGoesOnAsItDoes(t *testing.T) {
	h, own := settled(t)
	other := h.copied()
	for _, o := range rest(own) {
		if a, b := h.do(o), other.do(o); a != b || !slices.Equal(h.s.Touched(), other.s.Touched()) {
			t.Fatalf("%s: %+v, by the Copy %+v", short(o), a, b)
		}
	}
}

// Whatever is done with the Copy is nothing to what it was made of, and the other way round.
func TestCopyGoesOnOtherwise(t *testing.T) {
	for _, turned := range []bool{false, true} {
		h, own := settled(t)
		one, other := h, h.copied()
		if turned {
			one, other = other, one
		}
		ops := rest(own)
		for _, o := range ops {
			one.do(o)
			other.same("what the other one did")
		}
		slices.Reverse(ops)
		for _, o := range ops {
			other.do(o)
		}
		one.same("what the other one did")
		for id := range 8 {
			one.do(destroy(id))
		}
		other.same("what the other one did")
		other.copied()
	}
}

// Two Copies of one, and the one, each go on in a way of its own; and so do Copies of these.
func TestCopiesOfOne(t *testing.T) {
	h := built(t, 64, 4)
	h.done(create(0, 1, 100))
	for length := range 9 {
		if length > 0 {
			h.done(free(0, h.done(malloc(0, 10+length)).Handle))
		}
		a, b := h.copied(), h.copied()
		a.filled(0, 40, 1)
		b.done(create(1, 1, 50))
		h.same("what its Copies did")
		h.copied().do(destroy(0))
		aa, bb := a.copied(), b.copied()
		bb.done(destroy(0))
		aa.done(create(1, 2, 50))
		a.do(malloc(0, 50))
		b.do(malloc(1, 50))
		for _, x := range []*house{h, a, b, aa, bb} {
			x.same("what the other ones did")
			x.copied()
		}
	}
}

func TestCopyOfACopy(t *testing.T) {
	h, own := settled(t)
	for i, o := range rest(own) {
		before := h
		if i%4 == 0 {
			h = h.copied()
		}
		h.do(o)
		if before != h {
			before.same("what its Copy did")
		}
	}
}

func TestCopyOfNobody(t *testing.T) {
	for _, c := range []api.Config{{Pages: 1, Colours: 1}, {Pages: 64, Colours: 4}, {Pages: 4096, Colours: 32}} {
		h := built(t, c.Pages, c.Colours)
		other := h.copied()
		other.do(create(0, 1, 16))
		other.do(malloc(0, 16))
		h.same("what the Copy did")
		h.says(create(0, c.Colours+1, 16), api.Answer{Err: api.ErrSize})
	}
}

// What was touched last is told by the Copy, too, whether it changed something or not.
func TestCopyTellsWhatWasTouched(t *testing.T) {
	h := built(t, 64, 4)
	h.done(create(0, 1, 400))
	h.copied()
	x := h.filled(0, 40, 1)
	for _, o := range []api.Op{
		read(0, x, 3, 9), write(0, x, 3, "abc"), usable(0, x), read(0, x, 3, 0), write(0, x, 0, ""), read(0, x, 3, 38), {Kind: 12}, malloc(1, 1), malloc(0, 60), malloc(0, 8193), realloc(0, x, 70), destroy(1), destroy(0),
	} {
		h.do(o)
		touched := h.s.Touched()
		other := h.copied()
		if got := other.s.Touched(); !slices.Equal(got, touched) {
			t.Fatalf("%s: touched %v, by the Copy %v", short(o), touched, got)
		}
		// And Bytes of either isn't noted.
		other.s.Bytes(0, 9)
		if got := other.s.Touched(); !slices.Equal(got, touched) {
			t.Fatalf("%s: Bytes is noted by the Copy: %v", short(o), got)
		}
	}
}

// What was refused is nothing to a Copy, though the same would be done now.
func TestCopyBehindRefusals(t *testing.T) {
	h := built(t, 64, 4)
	for _, o := range []api.Op{
		malloc(0, 40), create(0, 1, 1500), create(0, 2, 100), create(1, 3, 100), create(1, 2, 100), resize(0, 3, 100), malloc(0, 100), malloc(0, 60), free(0, 1048688), free(0, 1048688), malloc(0, 90), realloc(0, 1048688+1<<20, 100), malloc(0, 10),
		{Kind: 12}, {Kind: api.OpDestroy, Tenant: 8}, {Kind: api.OpDestroy, Data: "a"}, destroy(2), resize(0, 1, 20), destroy(0), create(2, 3, 100), create(2, 2, 100), malloc(0, 10), malloc(1, 70), write(1, 1048689, 69, "ab"), restrict(1, 1048689, 9),
	} {
		h.do(o)
		h.copied().do(o)
		h.same("what the Copy did")
	}
}

// Every row of four out of some operations, each done by a Copy of what was ahead of it.
func TestCopiesOfShortRows(t *testing.T) {
	const x = 1048688
	ops := []api.Op{create(0, 1, 30), create(1, 1, 33), resize(0, 2, 64), destroy(0), malloc(0, 10), realloc(0, x, 30), write(0, x, 2, "ab"), free(0, x), restrict(0, x, api.MayRead)}
	var on func(h *house, depth int)
	on = func(h *house, depth int) {
		if depth == 0 {
			return
		}
		for _, o := range ops {
			other := h.copied()
			other.do(o)
			on(other, depth-1)
		}
		h.same("what its Copies did")
	}
	h := built(t, 40, 2)
	on(h, 4)
	h.done(ops[0])
	h.done(ops[4])
	on(h, 3)
}

// A long script, in which now and then a Copy goes on in its stead, or the two change places; the one that stays behind goes on later.
func TestCopiesAmidScripts(t *testing.T) {
	for seed := range 6 {
		r := rand.New(rand.NewSource(int64(seed)))
		all := []*house{built(t, 96, 6)}
		for range 500 {
			k := r.Intn(len(all))
			if r.Intn(12) == 0 {
				other := all[k].copied()
				if len(all) < 4 {
					all = append(all, other)
				} else {
					all[r.Intn(4)] = other
				}
			}
			for range 1 + r.Intn(5) {
				all[k].do(all[k].some(r, 16, 100, 300, 600, 1500))
			}
			for _, h := range all {
				h.same("what another one did")
			}
		}
	}
}
