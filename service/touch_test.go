package service

import (
	"math/rand"
	"slices"
	"testing"

	"garth/api"
)

// P21.5. Each operation that a house does is held against it (confined); here are those of which most may go wrong.

func TestLongScripts(t *testing.T) {
	for _, one := range []struct {
		pages, colours int
		quotas         []int
	}{
		{64, 4, []int{16, 100, 300, 600, 1500}},
		{64, 1, []int{16, 100, 1500, 3000}},
		{60, 30, []int{1, 15, 16, 17, 30}},
		{160, 8, []int{20, 100, 600, 900, 3000}},
		{2048, 8, []int{100, 4000, 10000, 30000, 65536}},
		{8, 8, []int{1, 16}},
		{1, 1, []int{1, 2, 15, 16, 17}},
	} {
		for seed := range 4 {
			r := rand.New(rand.NewSource(int64(1000*one.pages + seed)))
			h := built(t, one.pages, one.colours)
			steps := 1200
			if one.pages > 1000 {
				steps = 150
			}
			for range steps {
				h.do(h.some(r, one.quotas...))
			}
		}
	}
}

// Of a long script each kind is done, and refused, often enough.
func TestLongScriptsHaveAllKinds(t *testing.T) {
	r := rand.New(rand.NewSource(7))
	h := built(t, 64, 4)
	var done, refused [12]int
	errs := map[api.Errno]int{}
	for range 3000 {
		o := h.some(r, 16, 100, 300, 600, 1500)
		switch got := h.do(o); {
		case got.Err == api.ErrBadOp:
			errs[got.Err]++
		case got.Err == api.OK:
			done[o.Kind]++
		default:
			refused[o.Kind]++
			errs[got.Err]++
		}
	}
	for kind := 1; kind <= 11; kind++ {
		if done[kind] < 10 || refused[kind] < 10 {
			t.Errorf("kind %d: %d are done, %d are refused", kind, done[kind], refused[kind])
		}
	}
	for _, err := range []api.Errno{api.ErrBadOp, api.ErrSize, api.ErrQuota, api.ErrRange, api.ErrBadHandle, api.ErrNoTenant, api.ErrThere, api.ErrFit, api.ErrColours} {
		if errs[err] < 3 {
			t.Errorf("the error %d was met %d times", err, errs[err])
		}
	}
}

// Colours go from one tenant to another, with pages in them: nothing of what was there is left, and nobody's pages are touched.
func TestColoursThatChangeHands(t *testing.T) {
	h := built(t, 96, 6)
	h.done(create(0, 3, 1500))
	h.done(create(1, 3, 1500))
	a, b := h.filled(0, 600, 1), h.filled(1, 250, 2)
	c, d := h.filled(0, 40, 3), h.filled(1, 480, 4)
	for range 6 {
		h.done(resize(0, 2, 1500))
		h.done(resize(1, 4, 1500))
		h.done(resize(1, 2, 1500))
		h.done(resize(0, 4, 1500))
		h.done(resize(0, 3, 1500))
		h.done(resize(1, 3, 1500))
		h.says(read(0, a, 0, 600), api.Answer{Data: noise(600, 1), Charged: 1072})
		h.says(read(1, b, 0, 250), api.Answer{Data: noise(250, 2), Charged: 768})
		h.says(read(0, c, 0, 40), api.Answer{Data: noise(40, 3), Charged: 1072})
		h.says(read(1, d, 0, 480), api.Answer{Data: noise(480, 4), Charged: 768})
	}
	h.done(destroy(0))
	h.done(resize(1, 5, 1500))
	h.says(read(1, b, 0, 250), api.Answer{Data: noise(250, 2), Charged: 768})
	h.done(resize(1, 2, 1500))
	h.done(create(5, 4, 1500))
	x := h.done(malloc(5, 1000)).Handle
	h.says(read(5, x, 0, 1000), api.Answer{Data: noughts(1000), Charged: 1024})
}

// A tenant that holds as many pages as its quota lets it, beside one that fills its own.
func TestTenantsThatAreFull(t *testing.T) {
	h := built(t, 64, 4)
	h.done(create(0, 2, 1500))
	h.done(create(1, 2, 1500))
	for _, n := range []int{1, 20, 40, 60, 90, 120, 190, 250, 512} {
		for id := range 2 {
			if got := h.do(malloc(id, n)); got.Err != api.OK {
				t.Fatal(n, got)
			}
		}
	}
	for id := range 2 {
		for _, n := range []int{192, 192, 16, 16, 8192} {
			h.do(malloc(id, n))
		}
	}
	for _, b := range h.gifts {
		h.done(write(b.id, b.handle, 0, "a"))
		h.do(realloc(b.id, b.handle, 50))
	}
	h.done(destroy(0))
	h.says(malloc(0, 1), api.Answer{Err: api.ErrNoTenant})
}

// What was refused is told of by its own answer alone: all that comes behind is as if it hadn't been.
func TestRefusalsLeaveNothing(t *testing.T) {
	for seed := range 4 {
		r := rand.New(rand.NewSource(int64(50 + seed)))
		h := built(t, 96, 6)
		plain, err := New(h.c)
		if err != api.OK {
			t.Fatal(err)
		}
		for range 800 {
			o := h.some(r, 16, 100, 300, 600, 1500)
			got := h.do(o)
			if got.Err != api.OK {
				continue
			}
			if want := plain.Do(o); got != want || !slices.Equal(h.s.Touched(), plain.Touched()) {
				t.Fatalf("%s: %+v, without refusals ahead of it %+v", short(o), got, want)
			}
		}
	}
}
