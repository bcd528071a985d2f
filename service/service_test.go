package service

import (
	"fmt"
	"math"
	"slices"
	"testing"

	"garth/api"
)

// P21.1

func TestConfigurationsThatMayNotBe(t *testing.T) {
	for _, c := range []api.Config{
		{}, {Pages: 1}, {Colours: 1}, {Pages: 0, Colours: 4}, {Pages: -4, Colours: 4}, {Pages: 4, Colours: -4}, {Pages: -4, Colours: -4}, {Pages: -1, Colours: 1},
		{Pages: 33, Colours: 33}, {Pages: 66, Colours: 33}, {Pages: 4097, Colours: 1}, {Pages: 4128, Colours: 32}, {Pages: 8192, Colours: 32}, {Pages: 4096, Colours: 33},
		{Pages: 4096, Colours: 31}, {Pages: 4095, Colours: 32}, {Pages: 1, Colours: 2}, {Pages: 31, Colours: 32}, {Pages: 7, Colours: 3}, {Pages: 64, Colours: 5},
		{Pages: math.MaxInt, Colours: 1}, {Pages: math.MinInt, Colours: 1}, {Pages: math.MinInt, Colours: 32}, {Pages: 32, Colours: math.MaxInt}, {Pages: 32, Colours: math.MinInt},
		{Pages: math.MaxInt, Colours: math.MaxInt}, {Pages: math.MinInt, Colours: math.MinInt}, {Pages: 1 << 32, Colours: 32}, {Pages: 1<<32 + 32, Colours: 32}, {Pages: 32, Colours: 1<<32 + 1},
	} {
		if s, err := New(c); s != nil || err != api.ErrArg {
			t.Fatalf("New(%v): %v, %d", c, s, err)
		}
	}
}

func TestConfigurationsThatMayBe(t *testing.T) {
	for _, c := range []api.Config{
		{Pages: 1, Colours: 1}, {Pages: 2, Colours: 1}, {Pages: 2, Colours: 2}, {Pages: 6, Colours: 3}, {Pages: 32, Colours: 32}, {Pages: 64, Colours: 4}, {Pages: 93, Colours: 31},
		{Pages: 4096, Colours: 1}, {Pages: 4096, Colours: 32}, {Pages: 4092, Colours: 31}, {Pages: 4095, Colours: 1}, {Pages: 4064, Colours: 32},
	} {
		h := built(t, c.Pages, c.Colours)
		if h.s.Free() != c.Colours {
			t.Fatalf("%v: %d colours are free", c, h.s.Free())
		}
		for id := range 8 {
			if got := tells(h.s, id); !got.equal(told{}) {
				t.Fatalf("%v: of %d is told %+v", c, id, got)
			}
		}
		if got, err := h.s.Bytes(0, 512*c.Pages); got != noughts(512*c.Pages) || err != api.OK {
			t.Fatalf("%v: the bytes aren't 0: %d", c, err)
		}
		if _, err := h.s.Bytes(512*c.Pages, 1); err != api.ErrRange {
			t.Fatalf("%v: there are more bytes: %d", c, err)
		}
		// All colours are there to be had, and no more.
		h.says(create(3, c.Colours+1, 1), api.Answer{Err: api.ErrSize})
	}
}

// All numbers of colours, with so many pages that they divide them, and that they don't.
func TestConfigurationsOfFewPages(t *testing.T) {
	for colours := -2; colours <= 35; colours++ {
		for pages := -2; pages <= 70; pages++ {
			may := colours >= 1 && colours <= 32 && pages >= 1 && pages%colours == 0
			s, err := New(api.Config{Pages: pages, Colours: colours})
			switch {
			case !may && (s != nil || err != api.ErrArg):
				t.Fatalf("%d pages, %d colours: %v, %d", pages, colours, s, err)
			case may && (err != api.OK || s.Free() != colours):
				t.Fatalf("%d pages, %d colours: %d", pages, colours, err)
			}
		}
	}
}

func TestTwoServicesNeverMeet(t *testing.T) {
	h, other := built(t, 64, 4), built(t, 64, 4)
	h.done(create(0, 4, 1500))
	h.filled(0, 1000, 1)
	other.same("what the other one did")
	other.done(create(1, 4, 100))
	other.filled(1, 40, 2)
	h.same("what the other one did")
	h.done(destroy(0))
	other.same("what the other one did")
}

// P21.2

// two has the tenants 0 and 1, who have an object each, of 40 and of 600 bytes.
func two(t *testing.T) (*house, uint64, uint64) {
	t.Helper()
	h := built(t, 64, 4)
	h.done(create(0, 1, 100))
	h.done(create(1, 2, 1500))
	return h, h.filled(0, 40, 1), h.filled(1, 600, 2)
}

func TestOperationsThatMayNotBe(t *testing.T) {
	h, mine, _ := two(t)
	bad := func(o api.Op) {
		t.Helper()
		h.says(o, api.Answer{Err: api.ErrBadOp})
	}
	for _, kind := range noKinds {
		for _, id := range append([]int{0, 1, 5, 7}, nobodies...) {
			bad(api.Op{Kind: kind, Tenant: id})
			bad(api.Op{Kind: kind, Tenant: id, N: 40, M: 1, Handle: mine})
			bad(api.Op{Kind: kind, Tenant: id, Handle: mine, Data: "ab"})
		}
	}
	for kind := 1; kind <= 11; kind++ {
		for _, id := range nobodies {
			bad(api.Op{Kind: kind, Tenant: id})
			bad(api.Op{Kind: kind, Tenant: id, N: 16, M: 1, Handle: mine})
		}
		// Tenants that are there, and ones that aren't.
		for _, id := range []int{0, 1, 5, 7} {
			if kind != api.OpWrite {
				bad(api.Op{Kind: kind, Tenant: id, N: 16, M: 1, Handle: mine, Data: "a"})
				bad(api.Op{Kind: kind, Tenant: id, N: 16, M: 1, Handle: mine, Data: "\x00"})
				bad(api.Op{Kind: kind, Tenant: id, N: 16, M: 1, Handle: mine, Data: noise(8192, 1)})
			}
			bad(api.Op{Kind: kind, Tenant: id, N: 16, M: 1, Handle: mine, Data: noise(8193, 1)})
		}
	}
}

// The longest Data that may be is the tenant's to refuse, or to take.
func TestLongestWrite(t *testing.T) {
	h := built(t, 700, 1)
	h.says(write(2, 5, 0, noise(8192, 1)), api.Answer{Err: api.ErrNoTenant})
	h.done(create(2, 1, 20000))
	x := h.done(malloc(2, 8192)).Handle
	h.says(write(2, x, 0, noise(8193, 1)), api.Answer{Err: api.ErrBadOp})
	h.says(write(2, x, 1, noise(8192, 1)), api.Answer{Err: api.ErrRange, Charged: 8192})
	h.says(write(2, x, 0, noise(8192, 1)), api.Answer{Charged: 8192})
	h.says(read(2, x, 0, 8192), api.Answer{Data: noise(8192, 1), Charged: 8192})
}

// Each kind of a tenant that isn't there: one that never was, and one that is gone.
func TestNobodyIsThere(t *testing.T) {
	h := built(t, 64, 4)
	h.done(create(0, 1, 100))
	h.done(create(3, 1, 100))
	mine, gone := h.filled(0, 40, 1), h.filled(3, 40, 2)
	h.done(destroy(3))
	for _, id := range []int{1, 3, 7} {
		for kind := 2; kind <= 11; kind++ {
			for _, x := range []uint64{0, mine, gone, math.MaxUint64} {
				for _, n := range append([]int{0, 1, 16}, far...) {
					h.says(api.Op{Kind: kind, Tenant: id, N: n, M: 1, Handle: x}, api.Answer{Err: api.ErrNoTenant})
					h.says(api.Op{Kind: kind, Tenant: id, N: 1, M: n, Handle: x}, api.Answer{Err: api.ErrNoTenant})
				}
			}
		}
		h.says(write(id, gone, 0, "ab"), api.Answer{Err: api.ErrNoTenant})
	}
	h.says(read(0, mine, 0, 40), api.Answer{Data: noise(40, 1), Charged: 48})
}

func TestNobodyIsThereAtFirst(t *testing.T) {
	h := built(t, 6, 3)
	for id := range 8 {
		for kind := 2; kind <= 11; kind++ {
			h.says(api.Op{Kind: kind, Tenant: id, N: 1, M: 1}, api.Answer{Err: api.ErrNoTenant})
		}
	}
}

func TestErrorsOfTheAdministrator(t *testing.T) {
	h, _, _ := two(t)
	for _, one := range []struct {
		o       api.Op
		err     api.Errno
		charged int
	}{
		{create(0, 1, 100), api.ErrThere, 48}, {create(1, 2, 1500), api.ErrThere, 1024}, {create(0, 0, 0), api.ErrThere, 48}, {create(0, 3, 65537), api.ErrThere, 48},
		{create(2, 0, 16), api.ErrSize, 0}, {create(2, 5, 16), api.ErrSize, 0}, {create(2, 1, 0), api.ErrSize, 0}, {create(2, 1, 65537), api.ErrSize, 0},
		{create(2, 1, 1500), api.ErrFit, 0}, {create(2, 4, 65536), api.ErrFit, 0}, {create(2, 2, 16), api.ErrColours, 0}, {create(7, 4, 16), api.ErrColours, 0},
		{resize(2, 1, 16), api.ErrNoTenant, 0}, {resize(2, 0, 0), api.ErrNoTenant, 0}, {destroy(2), api.ErrNoTenant, 0}, {destroy(7), api.ErrNoTenant, 0},
		{resize(0, 0, 100), api.ErrSize, 48}, {resize(0, 5, 100), api.ErrSize, 48}, {resize(0, 1, 0), api.ErrSize, 48}, {resize(1, 1, 65537), api.ErrSize, 1024},
		{resize(0, 1, 47), api.ErrQuota, 48}, {resize(0, 4, 16), api.ErrQuota, 48}, {resize(1, 2, 1023), api.ErrQuota, 1024},
		{resize(0, 1, 1500), api.ErrFit, 48}, {resize(1, 1, 1024), api.ErrFit, 1024}, {resize(1, 1, 1500), api.ErrFit, 1024}, {resize(1, 2, 3000), api.ErrFit, 1024},
		{resize(0, 3, 100), api.ErrColours, 48}, {resize(1, 4, 1500), api.ErrColours, 1024}, {resize(0, 4, 48), api.ErrColours, 48},
	} {
		h.says(one.o, api.Answer{Err: one.err, Charged: one.charged})
	}
	// What is done says in Charged what is charged behind it.
	h.says(resize(0, 2, 48), api.Answer{Charged: 48})
	h.says(resize(1, 2, 1500), api.Answer{Charged: 1024})
	h.says(destroy(1), api.Answer{})
	h.says(create(1, 2, 16), api.Answer{})
	h.says(destroy(0), api.Answer{})
}

// N is the quota, and M how many colours: of either the other one's number is another answer.
func TestColoursAndQuotaAreNotExchanged(t *testing.T) {
	h := built(t, 64, 4)
	h.says(create(0, 2, 3), api.Answer{})
	if h.s.Quota(0) != 3 || !slices.Equal(h.s.Window(0), []int{0, 1}) {
		t.Fatal(h.s.Quota(0), h.s.Window(0))
	}
	h.says(resize(0, 3, 2), api.Answer{})
	if h.s.Quota(0) != 2 || !slices.Equal(h.s.Window(0), []int{0, 1, 2}) {
		t.Fatal(h.s.Quota(0), h.s.Window(0))
	}
	h.says(create(1, 5, 1), api.Answer{Err: api.ErrSize})
	h.says(create(1, 1, 5), api.Answer{})
	h.says(resize(1, 5, 1), api.Answer{Err: api.ErrSize})
	h.says(resize(1, 1, 16), api.Answer{})
}

func TestErrorsOfTheTenant(t *testing.T) {
	h, mine, others := two(t)
	less := h.done(restrict(0, mine, api.MayRead)).Handle
	says := func(o api.Op, err api.Errno) {
		t.Helper()
		h.says(o, api.Answer{Err: err, Charged: 48})
	}
	for _, n := range append([]int{0, 8193}, far...) {
		says(malloc(0, n), api.ErrSize)
		says(calloc(0, n, 1), api.ErrSize)
		says(calloc(0, 1, n), api.ErrSize)
		says(realloc(0, mine, n), api.ErrSize)
	}
	says(calloc(0, 91, 91), api.ErrSize)
	says(calloc(0, 1<<32, 1<<32), api.ErrSize)
	says(malloc(0, 49), api.ErrQuota)
	says(malloc(0, 8192), api.ErrQuota)
	says(calloc(0, 7, 7), api.ErrQuota)
	says(realloc(0, mine, 49), api.ErrQuota)
	for _, n := range append([]int{41}, far...) {
		says(read(0, mine, n, 1), api.ErrRange)
		says(read(0, mine, 0, n), api.ErrRange)
		says(write(0, mine, n, "a"), api.ErrRange)
	}
	says(read(0, mine, 40, 1), api.ErrRange)
	says(write(0, mine, 39, "ab"), api.ErrRange)
	for _, rights := range append([]int{0, 8, 16}, far...) {
		says(restrict(0, mine, rights), api.ErrSize)
	}
	for _, x := range []uint64{0, others, less ^ 1<<5, mine + 1<<20, mine ^ 1, math.MaxUint64} {
		says(free(0, x), api.ErrBadHandle)
		says(realloc(0, x, 10), api.ErrBadHandle)
		says(realloc(0, x, 0), api.ErrBadHandle)
		says(usable(0, x), api.ErrBadHandle)
		says(read(0, x, 0, 1), api.ErrBadHandle)
		says(read(0, x, -1, 1), api.ErrBadHandle)
		says(write(0, x, 0, "a"), api.ErrBadHandle)
		says(restrict(0, x, 1), api.ErrBadHandle)
	}
	// It has one right alone.
	says(free(0, less), api.ErrBadHandle)
	says(realloc(0, less, 40), api.ErrBadHandle)
	says(write(0, less, 0, "a"), api.ErrBadHandle)
	says(restrict(0, less, 2), api.ErrBadHandle)
	h.says(read(0, less, 38, 2), api.Answer{Data: noise(40, 1)[38:], Charged: 48})
	h.says(usable(0, less), api.Answer{N: 48, Charged: 48})
}

func TestMoreSharesThanThereMayBe(t *testing.T) {
	h, mine, _ := two(t)
	for range 64 {
		h.done(restrict(0, mine, api.MayAll))
	}
	h.says(restrict(0, mine, 1), api.Answer{Err: api.ErrMany, Charged: 48})
}

// Another tenant's handle, one of a tenant that is gone, and of one that is there again, are good for nobody.
func TestHandlesOfOthers(t *testing.T) {
	h, mine, others := two(t)
	none := func(id int, x uint64) {
		t.Helper()
		want := api.Answer{Err: api.ErrBadHandle, Charged: h.s.Charged(id)}
		for kind := api.OpFree; kind <= api.OpRestrict; kind++ {
			h.says(api.Op{Kind: kind, Tenant: id, Handle: x, N: 1, M: 1}, want)
		}
	}
	none(0, others)
	none(1, mine)
	h.done(destroy(1))
	none(0, others)
	h.done(create(1, 2, 1500))
	none(1, others)
	none(0, others)
	again := h.filled(1, 600, 3)
	if again == others {
		t.Fatal("the handle of one that is gone was given again")
	}
	none(1, others)
	none(0, again)
	h.done(free(1, again))
	none(1, again)
	h.says(read(0, mine, 0, 40), api.Answer{Data: noise(40, 1), Charged: 48})
}

// Each kind is what it is: by what it was told, and by nothing else of the operation.
func TestEachKindOfATenant(t *testing.T) {
	h := built(t, 64, 4)
	h.done(create(5, 2, 400))
	a := h.do(malloc(5, 40))
	if a.Err != api.OK || a.Addr != 393216 || a.Charged != 48 || a.Handle != 1048688+5 {
		t.Fatal(a)
	}
	b := h.do(calloc(5, 3, 7))
	if b.Err != api.OK || b.Charged != 80 || b.Addr != 262144 {
		t.Fatal(b)
	}
	h.says(usable(5, b.Handle), api.Answer{N: 32, Charged: 80})
	h.says(write(5, b.Handle, 19, "xy"), api.Answer{Charged: 80})
	h.says(read(5, b.Handle, 18, 3), api.Answer{Data: "\x00xy", Charged: 80})
	h.says(read(5, b.Handle, 3, 0), api.Answer{Charged: 80})
	h.says(realloc(5, b.Handle, 20), api.Answer{Handle: b.Handle, Addr: b.Addr, Charged: 80})
	h.says(realloc(5, b.Handle, 21), api.Answer{Handle: b.Handle, Addr: b.Addr, Charged: 80})
	h.says(read(5, b.Handle, 18, 3), api.Answer{Data: "\x00x\x00", Charged: 80})
	c := h.done(realloc(5, a.Handle, 49))
	if c.Handle == a.Handle || c.Addr == a.Addr || c.Charged != 96 {
		t.Fatal(c)
	}
	d := h.done(restrict(5, c.Handle, api.MayFree))
	if d.Handle == c.Handle || d.Charged != 96 || d.Addr != 0 {
		t.Fatal(d)
	}
	h.says(free(5, d.Handle), api.Answer{Charged: 32})
	h.says(usable(5, c.Handle), api.Answer{Err: api.ErrBadHandle, Charged: 32})
}

// Numbers that an operation's kind has no use for are nothing to it.
func TestWhatAKindHasNoUseFor(t *testing.T) {
	h, mine, _ := two(t)
	for _, n := range append([]int{0, 1, 16}, far...) {
		h.says(api.Op{Kind: api.OpUsable, Handle: mine, N: n, M: n}, api.Answer{N: 48, Charged: 48})
		h.says(api.Op{Kind: api.OpRead, Handle: mine, N: 0, M: 2}, api.Answer{Data: noise(2, 1), Charged: 48})
		h.says(api.Op{Kind: api.OpWrite, Handle: mine, M: n, Data: noise(2, 1)}, api.Answer{Charged: 48})
		h.says(api.Op{Kind: api.OpRealloc, Handle: mine, N: 40, M: n}, api.Answer{Handle: mine, Addr: 393216, Charged: 48})
		h.says(api.Op{Kind: api.OpMalloc, N: 49, M: n, Handle: mine}, api.Answer{Err: api.ErrQuota, Charged: 48})
		h.says(api.Op{Kind: api.OpResize, N: 100, M: 1, Handle: uint64(n)}, api.Answer{Charged: 48})
		h.says(api.Op{Kind: api.OpDestroy, Tenant: 5, N: n, M: n, Handle: mine}, api.Answer{Err: api.ErrNoTenant})
	}
	h.says(api.Op{Kind: api.OpFree, Handle: mine, N: -1, M: -1}, api.Answer{})
	h.says(api.Op{Kind: api.OpDestroy, N: -1, M: -1, Handle: mine}, api.Answer{})
}

func TestAllEightTenants(t *testing.T) {
	h := built(t, 64, 8)
	for id := range 8 {
		h.says(create(id, 1, 16*(id+1)), api.Answer{})
		h.says(create(id, 1, 16), api.Answer{Err: api.ErrThere})
	}
	for id := range 8 {
		a := h.done(malloc(id, 16))
		if a.Addr != 131072 || a.Charged != 16 || !slices.Equal(h.s.Pages(id), []int{id}) {
			t.Fatal(id, a, h.s.Pages(id))
		}
		h.says(malloc(id, 16*id+1), api.Answer{Err: api.ErrQuota, Charged: 16})
	}
	for _, id := range []int{3, 0, 7, 5, 1, 2, 4, 6} {
		h.says(destroy(id), api.Answer{})
		h.says(destroy(id), api.Answer{Err: api.ErrNoTenant})
	}
}

// P21.3

func TestWhatIsTold(t *testing.T) {
	h := built(t, 64, 4)
	tell := func(id int, want told, free int) {
		t.Helper()
		if got := tells(h.s, id); !got.equal(want) || h.s.Free() != free {
			t.Fatalf("of %d is told %+v, and %d colours are free; wanted %+v, and %d", id, got, h.s.Free(), want, free)
		}
	}
	h.done(create(0, 1, 300))
	h.done(create(1, 2, 600))
	tell(0, told{live: true, quota: 300, window: []int{0}}, 1)
	tell(1, told{live: true, quota: 600, window: []int{1, 2}}, 1)
	tell(2, told{}, 1)
	// The block of the least kind comes last: its local page is the first one, its page of the arena the last.
	big := h.done(malloc(1, 190)).Handle
	h.done(malloc(1, 250))
	small := h.done(malloc(1, 3)).Handle
	blocks := []api.Block{{Addr: 131072, Size: 3, Usable: 16}, {Addr: 131072 * 7, Size: 190, Usable: 192}, {Addr: 131072 * 8, Size: 250, Usable: 256}}
	tell(1, told{live: true, charged: 464, quota: 600, blocks: blocks, pages: []int{1, 2, 5}, window: []int{1, 2}}, 1)
	h.done(free(1, big))
	blocks = []api.Block{blocks[0], blocks[2]}
	tell(1, told{live: true, charged: 272, quota: 600, blocks: blocks, pages: []int{2, 5}, window: []int{1, 2}}, 1)
	h.done(resize(1, 3, 700))
	tell(1, told{live: true, charged: 272, quota: 700, blocks: blocks, pages: []int{2, 5}, window: []int{1, 2, 3}}, 0)
	h.done(free(1, small))
	tell(1, told{live: true, charged: 256, quota: 700, blocks: blocks[1:], pages: []int{2}, window: []int{1, 2, 3}}, 0)
	h.done(resize(1, 2, 600))
	h.done(resize(0, 2, 300))
	tell(1, told{live: true, charged: 256, quota: 600, blocks: blocks[1:], pages: []int{2}, window: []int{1, 2}}, 0)
	tell(0, told{live: true, quota: 300, window: []int{0, 3}}, 0)
	h.done(destroy(0))
	tell(0, told{}, 2)
	h.done(destroy(1))
	tell(1, told{}, 4)
}

// Local pages rise with the kinds, and the arena's as they came: Pages goes by these.
func TestPagesRise(t *testing.T) {
	h := built(t, 480, 8)
	h.done(create(0, 1, 2000))
	h.done(create(6, 3, 5000))
	for _, n := range []int{8192 / 4, 1000, 513, 250, 190, 120, 90, 60, 40, 30, 10} {
		h.done(malloc(6, n))
		if pages := h.s.Pages(6); !slices.IsSorted(pages) {
			t.Fatal(pages)
		}
	}
	if pages := h.s.Pages(6); !slices.Equal(pages, []int{1, 2, 3, 9, 10, 11, 17, 18, 19, 25, 26, 27, 33, 34, 35, 41}) {
		t.Fatal(pages)
	}
}

func TestPagesBehindResizeAndDestroy(t *testing.T) {
	h := built(t, 96, 6)
	h.done(create(4, 4, 1400))
	h.done(create(2, 1, 100))
	var all []uint64
	for _, n := range []int{600, 10, 60, 120} {
		all = append(all, h.filled(4, n, n))
	}
	if pages := h.s.Pages(4); !slices.Equal(pages, []int{0, 1, 2, 3, 6}) {
		t.Fatal(pages)
	}
	h.done(resize(4, 2, 1400))
	if pages := h.s.Pages(4); len(pages) != 5 || !slices.IsSorted(pages) || slices.ContainsFunc(pages, func(p int) bool { return p%6 > 1 }) {
		t.Fatal(pages)
	}
	h.done(resize(4, 3, 1500))
	for i, n := range []int{600, 10, 60, 120} {
		h.says(read(4, all[i], 0, n), api.Answer{Data: noise(n, n), Charged: 1024 + 16 + 64 + 128})
	}
	h.says(resize(4, 1, 1300), api.Answer{Err: api.ErrFit, Charged: 1232})
	if pages := h.s.Pages(4); len(pages) != 5 {
		t.Fatal(pages)
	}
	h.done(destroy(4))
	if pages := h.s.Pages(4); len(pages) != 0 || len(h.s.Pages(2)) != 0 {
		t.Fatal(pages)
	}
	if bytes, _ := h.s.Bytes(0, 96*512); bytes != noughts(96*512) {
		t.Fatal("bytes are left")
	}
	h.done(create(4, 4, 1000))
	if pages := h.s.Pages(4); len(pages) != 0 {
		t.Fatal(pages)
	}
}

func TestTouched(t *testing.T) {
	h := built(t, 64, 4)
	touched := func(want ...api.Span) {
		t.Helper()
		for range 2 {
			if got := h.s.Touched(); !slices.Equal(got, want) {
				t.Fatalf("touched %v, wanted %v", got, want)
			}
			// Whatever is asked, it stays.
			h.s.Bytes(0, 64*512)
			h.s.Bytes(3, 1)
			h.s.Bytes(-1, 1)
			tells(h.s, 0)
		}
	}
	touched()
	h.done(create(0, 1, 100))
	touched()
	x := h.done(malloc(0, 40)).Handle
	h.done(write(0, x, 38, "xy"))
	touched(api.Span{At: 38, N: 2, Wrote: true})
	h.done(read(0, x, 1, 39))
	touched(api.Span{At: 1, N: 39})
	// Nothing of what is behind is left, whatever comes then.
	for _, o := range []api.Op{
		{}, {Kind: 12}, {Kind: api.OpRead, Tenant: 8}, {Kind: api.OpRead, Handle: x, M: 2, Data: "a"},
		create(0, 1, 100), create(1, 9, 9), destroy(1), resize(0, 4, 0), malloc(1, 40), malloc(0, 60), read(0, x, 0, 41), read(0, 5, 0, 1), write(0, x, 40, "a"), usable(0, x), read(0, x, 5, 0), write(0, x, 5, ""),
	} {
		h.done(read(0, x, 1, 39))
		h.do(o)
		touched()
	}
	h.done(write(0, x, 0, "ab"))
	touched(api.Span{At: 0, N: 2, Wrote: true})
	h.done(realloc(0, x, 30))
	touched(api.Span{At: 30, N: 10, Wrote: true})
	h.done(destroy(0))
	if len(h.s.Touched()) == 0 {
		t.Fatal("Destroy touches nothing")
	}
	h.do(destroy(0))
	touched()
}

func TestBytes(t *testing.T) {
	for _, pages := range []int{1, 64, 4096} {
		h := built(t, pages, 1)
		size := 512 * pages
		want := noughts(size)
		if pages > 1 {
			h.done(create(0, 1, 300))
			h.filled(0, 200, 3)
			want = noise(200, 3) + noughts(size-200)
		}
		touched := h.s.Touched()
		for _, one := range [][2]int{{0, 0}, {0, 1}, {0, size}, {1, size - 1}, {size - 1, 1}, {size, 0}, {size - 1, 0}, {100, 200}, {size - 8, 8}, {199, 2}} {
			got, err := h.s.Bytes(one[0], one[1])
			if err != api.OK || got != want[one[0]:one[0]+one[1]] {
				t.Fatalf("%d pages: Bytes(%v): %q, %d", pages, one, got, err)
			}
		}
		wrong := [][2]int{{0, size + 1}, {1, size}, {size, 1}, {size + 1, 0}, {size + 1, -1}, {size - 1, 2}, {-1, 1}, {-1, 0}, {-1, 2}, {0, -1}, {size, -1}, {1, math.MaxInt}}
		for _, n := range far {
			wrong = append(wrong, [2]int{n, 1}, [2]int{1, n}, [2]int{n, n}, [2]int{n, 0}, [2]int{size, n})
		}
		for _, one := range wrong {
			if got, err := h.s.Bytes(one[0], one[1]); err != api.ErrRange || got != "" {
				t.Fatalf("%d pages: Bytes(%v): %q, %d", pages, one, got, err)
			}
		}
		if got := h.s.Touched(); !slices.Equal(got, touched) {
			t.Fatalf("%d pages: Bytes was noted: %v, %v", pages, got, touched)
		}
	}
}

// What was answered may be written into, and what lies behind it, too: nothing that is asked next is another one by that.
func TestAnswersAreNewMemory(t *testing.T) {
	h := built(t, 64, 8)
	h.done(create(0, 2, 300))
	h.done(create(1, 3, 300))
	h.filled(0, 100, 1)
	x := h.filled(1, 70, 2)
	h.done(malloc(1, 10))
	spoil := func() {
		for id := range 2 {
			blocks, pages, window, touched := h.s.Blocks(id), h.s.Pages(id), h.s.Window(id), h.s.Touched()
			clear(blocks[:cap(blocks)])
			clear(pages[:cap(pages)])
			clear(window[:cap(window)])
			clear(touched[:cap(touched)])
			_, _ = append(pages[:0], 9, 9), append(window[:0], 9, 9)
			_, _ = append(blocks[:0], api.Block{Addr: 9}), append(touched[:0], api.Span{At: 9})
		}
	}
	spoil()
	h.same("writing into answers")
	h.done(read(1, x, 0, 70))
	spoil()
	h.same("writing into answers")
	other := h.copied()
	spoil()
	other.same("writing into the other one's answers")
	// And what was answered stays as it was.
	blocks, pages, window, touched := h.s.Blocks(1), h.s.Pages(1), h.s.Window(1), h.s.Touched()
	was := fmt.Sprint(blocks, pages, window, touched)
	h.done(write(1, x, 3, "abc"))
	h.done(resize(1, 1, 300))
	h.done(free(1, x))
	h.done(destroy(1))
	if now := fmt.Sprint(blocks, pages, window, touched); now != was {
		t.Fatal("an answer was written into:", now, was)
	}
}

// P21.4

func TestNil(t *testing.T) {
	var s *Service
	for kind := -1; kind <= 13; kind++ {
		for _, id := range append([]int{0, 1, 7}, nobodies...) {
			for _, data := range []string{"", "a", noise(8193, 1)} {
				if got := s.Do(api.Op{Kind: kind, Tenant: id, N: 16, M: 1, Handle: 1048688, Data: data}); got != (api.Answer{Err: api.ErrNil}) {
					t.Fatal(kind, id, got)
				}
			}
		}
	}
	for _, id := range append([]int{0, 1, 7}, nobodies...) {
		if got := tells(s, id); !got.equal(told{}) {
			t.Fatal(id, got)
		}
	}
	for _, n := range append([]int{0, 1, 512}, far...) {
		if got, err := s.Bytes(n, 1); got != "" || err != api.ErrNil {
			t.Fatal(n, got, err)
		}
		if got, err := s.Bytes(0, n); got != "" || err != api.ErrNil {
			t.Fatal(n, got, err)
		}
	}
	if s.Free() != 0 || len(s.Touched()) != 0 || s.Copy() != nil {
		t.Fatal(s.Free(), s.Touched(), s.Copy())
	}
}

// One that nobody made by New has no colour.
func TestServiceThatNewDidNotMake(t *testing.T) {
	s := new(Service)
	for range 2 {
		for kind := -1; kind <= 13; kind++ {
			for _, id := range append([]int{0, 7}, nobodies...) {
				if got := s.Do(api.Op{Kind: kind, Tenant: id, N: 16, M: 1}); got.Err == api.OK {
					t.Fatal(kind, id, got)
				}
				if got := tells(s, id); !got.equal(told{}) {
					t.Fatal(id, got)
				}
			}
		}
		if _, err := s.Bytes(0, 0); s.Free() != 0 || len(s.Touched()) != 0 || err == api.OK {
			t.Fatal(s.Free(), s.Touched(), err)
		}
		if s = s.Copy(); s == nil {
			t.Fatal("no Copy")
		}
	}
}

// The examples.

func TestExamples(t *testing.T) {
	h := built(t, 64, 4)
	h.says(api.Op{Kind: api.OpCreate, Tenant: 0, N: 100, M: 1}, api.Answer{})
	h.says(api.Op{Kind: api.OpMalloc, Tenant: 0, N: 40}, api.Answer{Addr: 393216, Charged: 48, Handle: 1048688})
	h.says(api.Op{Kind: api.OpMalloc, Tenant: 1, N: 40}, api.Answer{Err: api.ErrNoTenant})
	h.says(api.Op{Kind: 12}, api.Answer{Err: api.ErrBadOp})
	h.says(api.Op{Kind: api.OpFree, Tenant: 0, Handle: 1048688}, api.Answer{})
}

func TestExamplesOfTheWhole(t *testing.T) {
	h := built(t, 64, 4)
	h.says(create(0, 1, 100), api.Answer{})
	h.says(malloc(0, 40), api.Answer{Handle: 1048688, Addr: 393216, Charged: 48})
	h.says(malloc(0, 60), api.Answer{Err: api.ErrQuota, Charged: 48})
	h.says(read(0, 1048688, 0, 40), api.Answer{Data: noughts(40), Charged: 48})
	h.says(write(0, 1048688, 0, noise(40, 1)), api.Answer{Charged: 48})
	h.says(read(0, 1048688, 0, 40), api.Answer{Data: noise(40, 1), Charged: 48})
	h.says(read(0, 1048688, 0, 41), api.Answer{Err: api.ErrRange, Charged: 48})
	h.says(read(1, 1048688, 0, 40), api.Answer{Err: api.ErrNoTenant})
	h.says(realloc(0, 1048688, 48), api.Answer{Handle: 1048688, Addr: 393216, Charged: 48})
	h.says(realloc(0, 1048688, 49), api.Answer{Err: api.ErrQuota, Charged: 48})
	h.says(resize(0, 1, 200), api.Answer{Charged: 48})
	moved := h.done(realloc(0, 1048688, 49))
	if moved.Handle == 1048688 || moved.Charged != 64 {
		t.Fatal(moved)
	}
	h.says(read(0, 1048688, 0, 1), api.Answer{Err: api.ErrBadHandle, Charged: 64})
	less := h.done(restrict(0, moved.Handle, api.MayRead))
	h.says(write(0, less.Handle, 0, "a"), api.Answer{Err: api.ErrBadHandle, Charged: 64})
	h.says(read(0, less.Handle, 0, 40), api.Answer{Data: noise(40, 1), Charged: 64})
	h.says(create(1, 3, 100), api.Answer{})
	h.says(read(1, less.Handle, 0, 40), api.Answer{Err: api.ErrBadHandle})
	h.says(resize(0, 2, 200), api.Answer{Err: api.ErrColours, Charged: 64})
	h.says(destroy(0), api.Answer{})
	if bytes, _ := h.s.Bytes(0, 64*512); bytes != noughts(64*512) {
		t.Fatal("bytes are left")
	}
	h.says(create(0, 1, 100), api.Answer{})
	// Three handles were given.
	h.says(malloc(0, 40), api.Answer{Handle: 1048688 + 3<<20, Addr: 393216, Charged: 48})
	h.says(api.Op{Kind: 12}, api.Answer{Err: api.ErrBadOp})
}
