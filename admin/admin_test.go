package admin

import (
	"fmt"
	"math"
	"slices"
	"testing"

	"garth/api"
)

// P20.1

func TestConfigurationsThatMayNotBe(t *testing.T) {
	for _, c := range []api.Config{
		{}, {Pages: 1}, {Colours: 1}, {Pages: 0, Colours: 4}, {Pages: -4, Colours: 4}, {Pages: 4, Colours: -4}, {Pages: -4, Colours: -4}, {Pages: -1, Colours: 1},
		{Pages: 33, Colours: 33}, {Pages: 66, Colours: 33}, {Pages: 4097, Colours: 1}, {Pages: 4128, Colours: 32}, {Pages: 8192, Colours: 32}, {Pages: 4096, Colours: 33},
		{Pages: 4096, Colours: 31}, {Pages: 4095, Colours: 32}, {Pages: 1, Colours: 2}, {Pages: 31, Colours: 32}, {Pages: 7, Colours: 3}, {Pages: 64, Colours: 5},
		{Pages: math.MaxInt, Colours: 1}, {Pages: math.MinInt, Colours: 1}, {Pages: math.MinInt, Colours: 32}, {Pages: 32, Colours: math.MaxInt}, {Pages: 32, Colours: math.MinInt},
		{Pages: math.MaxInt, Colours: math.MaxInt}, {Pages: math.MinInt, Colours: math.MinInt}, {Pages: 1 << 32, Colours: 32}, {Pages: 1<<32 + 32, Colours: 32}, {Pages: 32, Colours: 1<<32 + 1},
	} {
		if a, err := New(c); a != nil || err != api.ErrArg {
			t.Fatalf("New(%v): %v, %d", c, a, err)
		}
	}
}

func TestConfigurationsThatMayBe(t *testing.T) {
	for _, c := range []api.Config{
		{Pages: 1, Colours: 1}, {Pages: 2, Colours: 1}, {Pages: 2, Colours: 2}, {Pages: 6, Colours: 3}, {Pages: 32, Colours: 32}, {Pages: 64, Colours: 4}, {Pages: 93, Colours: 31},
		{Pages: 4096, Colours: 1}, {Pages: 4096, Colours: 32}, {Pages: 4092, Colours: 31}, {Pages: 4095, Colours: 1}, {Pages: 4064, Colours: 32},
	} {
		w := found(t, c.Pages, c.Colours)
		if got := w.a.Arena().Size(); got != 512*c.Pages {
			t.Fatalf("%v: the arena has %d bytes", c, got)
		}
		if len(w.a.Arena().Touched()) != 0 || w.a.Arena() != w.a.Arena() {
			t.Fatalf("%v: the arena is touched, or another one", c)
		}
		w.same(fmt.Sprintf("New(%v)", c))
		// All colours are there to be had, and no more.
		w.is(w.create(3, c.Colours+1, 1), api.ErrSize)
		w.ok(w.create(3, c.Colours, 1))
		if w.a.Free() != 0 {
			t.Fatalf("%v: %d colours are free", c, w.a.Free())
		}
	}
}

// All numbers of colours, with so many pages that they divide them, and that they don't.
func TestConfigurationsOfFewPages(t *testing.T) {
	for colours := -2; colours <= 35; colours++ {
		for pages := -2; pages <= 70; pages++ {
			may := colours >= 1 && colours <= 32 && pages >= 1 && pages%colours == 0
			a, err := New(api.Config{Pages: pages, Colours: colours})
			switch {
			case !may && (a != nil || err != api.ErrArg):
				t.Fatalf("%d pages, %d colours: %v, %d", pages, colours, a, err)
			case may && (err != api.OK || a.Free() != colours || a.Arena().Size() != 512*pages):
				t.Fatalf("%d pages, %d colours: %d", pages, colours, err)
			}
		}
	}
}

func TestNobodyIsThereAtFirst(t *testing.T) {
	w := found(t, 64, 4)
	for id := range 8 {
		if x, window, serial := w.a.Tenant(id), w.a.Window(id), w.a.Serial(id); x != nil || len(window) != 0 || serial != 1 {
			t.Fatal(id, x, window, serial)
		}
		w.is(w.destroy(id), api.ErrNoTenant)
		w.is(w.resize(id, 1, 16), api.ErrNoTenant)
	}
	if w.a.Free() != 4 {
		t.Fatal(w.a.Free())
	}
}

func TestTwoAdministratorsNeverMeet(t *testing.T) {
	w, other := found(t, 64, 4), found(t, 64, 4)
	w.ok(w.create(0, 4, 3000))
	w.filled(0, 1000, 1)
	other.same("the other one's Create")
	other.ok(other.create(1, 4, 100))
	other.filled(1, 40, 2)
	w.same("the other one's Create")
	w.destroy(0)
	other.same("the other one's Destroy")
}

// Tenant is the same one, however often it is asked for, and through a Resize.
func TestTenantStaysTheSame(t *testing.T) {
	w := found(t, 64, 4)
	w.ok(w.create(5, 1, 100))
	x := w.a.Tenant(5)
	if x == nil || x != w.a.Tenant(5) {
		t.Fatal(x)
	}
	w.ok(w.resize(5, 2, 200))
	if w.a.Tenant(5) != x {
		t.Fatal("another one behind Resize")
	}
	w.ok(w.destroy(5))
	w.ok(w.create(5, 1, 100))
	if w.a.Tenant(5) == x {
		t.Fatal("the one that is gone is there again")
	}
}

// What Window answered may be written into: neither what is asked next nor whose colours are is another one by that.
func TestWindowIsNewMemory(t *testing.T) {
	w := found(t, 64, 8)
	w.ok(w.create(0, 2, 100))
	w.ok(w.create(1, 3, 100))
	h := w.filled(1, 70, 1)
	for _, id := range []int{0, 1} {
		spoil(w.a.Window(id))
		_ = append(w.a.Window(id)[:0], 9, 9, 9, 9, 9)
		w.same("writing into Window")
	}
	before := w.a.Window(1)
	w.ok(w.resize(1, 5, 100))
	if !slices.Equal(before, []int{2, 3, 4}) {
		t.Fatal("an answer was written into", before)
	}
	spoil(before)
	w.ok(w.resize(1, 1, 100))
	w.ok(w.create(2, 5, 100))
	w.reads(1, h, noise(70, 1))
}

// P20.2

func TestWrongIds(t *testing.T) {
	w := found(t, 64, 4)
	w.ok(w.create(0, 1, 100))
	w.ok(w.create(7, 1, 100))
	w.filled(0, 40, 1)
	for _, id := range nobodies {
		// Whatever else is wrong, too.
		for _, colours := range []int{1, 0, 5, 3, math.MaxInt} {
			for _, quota := range []int{16, 0, 65536, 65537} {
				w.is(w.create(id, colours, quota), api.ErrArg)
				w.is(w.resize(id, colours, quota), api.ErrArg)
			}
		}
		w.is(w.destroy(id), api.ErrArg)
	}
}

// manySizes are so many colours (of 4), and quotas, at the edges.
func manySizes() (colours, quotas []int) {
	colours = append([]int{1, 2, 3, 4, 5, 6, 32, 33}, far...)
	quotas = append([]int{1, 15, 16, 17, 100, 512, 1500, 3000, 30000, 65535, 65536, 65537, 65538, 1 << 20}, far...)
	return colours, quotas
}

func TestCreateOfColoursAndQuotas(t *testing.T) {
	colours, quotas := manySizes()
	for _, pages := range []int{4, 64, 1600} {
		// Of all that may be wrong beside: nothing; it is there; another one has colours, but for one, and but for none.
		for taken := range 4 {
			w := found(t, pages, 4)
			if taken > 0 {
				w.ok(w.create([]int{0, 1, 2, 2}[taken], []int{0, 1, 3, 4}[taken], 1))
			}
			for _, k := range colours {
				for _, quota := range quotas {
					if w.create(1, k, quota) == api.OK {
						w.ok(w.destroy(1))
					}
				}
			}
		}
	}
}

func TestCreateInOrderOfErrors(t *testing.T) {
	for _, one := range []struct {
		id, colours, quota int
		want               api.Errno
	}{
		{8, 0, 0, api.ErrArg}, {-1, 5, 65537, api.ErrArg}, {-1, 1, 65536, api.ErrArg}, {8, 3, 16, api.ErrArg}, {8, 1, 16, api.ErrArg},
		{0, 0, 16, api.ErrThere}, {0, 1, 0, api.ErrThere}, {0, 5, 65537, api.ErrThere}, {0, 1, 65536, api.ErrThere}, {0, 3, 16, api.ErrThere}, {0, 1, 16, api.ErrThere},
		{1, 0, 65536, api.ErrSize}, {1, 5, 16, api.ErrSize}, {1, 5, 65536, api.ErrSize}, {1, 3, 65537, api.ErrSize}, {1, 3, 0, api.ErrSize}, {1, 0, 0, api.ErrSize}, {1, 1, -16, api.ErrSize}, {1, -1, 16, api.ErrSize},
		{1, 3, 65536, api.ErrFit}, {1, 4, 65536, api.ErrFit}, {1, 1, 65536, api.ErrFit}, {1, 3, 3000, api.ErrFit},
		{1, 3, 16, api.ErrColours}, {1, 4, 16, api.ErrColours}, {1, 3, 1, api.ErrColours}, {1, 3, 2000, api.ErrColours},
		{1, 2, 16, api.OK},
	} {
		w := found(t, 64, 4)
		w.ok(w.create(0, 2, 600))
		if err := w.create(one.id, one.colours, one.quota); err != one.want {
			t.Fatalf("%+v: %d", one, err)
		}
	}
}

// lastThatFits is the greatest quota that takes no more pages than that.
func lastThatFits(pages int) int {
	quota := 0
	for quota < 65536 && pagesFor(quota+1) <= pages {
		quota++
	}
	return quota
}

func TestQuotaThatJustFits(t *testing.T) {
	for _, c := range []api.Config{{Pages: 32, Colours: 32}, {Pages: 36, Colours: 4}, {Pages: 64, Colours: 4}, {Pages: 63, Colours: 3}, {Pages: 480, Colours: 8}, {Pages: 1000, Colours: 1}} {
		for k := 1; k <= c.Colours; k++ {
			pages := k * c.Pages / c.Colours
			quota := lastThatFits(pages)
			if quota < 1 || quota == 65536 {
				t.Fatalf("%d pages: a poor quota", pages)
			}
			w := found(t, c.Pages, c.Colours)
			w.is(w.create(6, k, quota+1), api.ErrFit)
			w.ok(w.create(6, k, quota))
			w.is(w.resize(6, k, quota+1), api.ErrFit)
			w.ok(w.resize(6, k, quota))
		}
	}
	// The greatest quota takes 1213 pages.
	if pagesFor(65536) != 1213 {
		t.Fatal(pagesFor(65536))
	}
	w := found(t, 2*1212, 2)
	w.is(w.create(0, 1, 65536), api.ErrFit)
	w.ok(w.create(0, 2, 65536))
	w = found(t, 2*1213, 2)
	w.ok(w.create(0, 1, 65536))
	w.ok(w.create(1, 1, 65536))
	w.is(w.resize(1, 1, 65537), api.ErrSize)
}

func TestCreateOfAllThatIsFree(t *testing.T) {
	for first := 1; first < 8; first++ {
		w := found(t, 16, 8)
		w.ok(w.create(0, first, 16))
		w.is(w.create(1, 8-first+1, 16), api.ErrColours)
		w.ok(w.create(1, 8-first, 16))
		w.is(w.create(2, 1, 1), api.ErrColours)
		w.is(w.create(2, 8, 1), api.ErrColours)
		w.ok(w.destroy(0))
		w.is(w.create(2, first+1, 1), api.ErrColours)
		w.ok(w.create(2, first, 1))
		if w.a.Free() != 0 || len(w.a.Window(2)) != first {
			t.Fatal(w.a.Free(), w.a.Window(2))
		}
	}
}

func TestAllEightTenants(t *testing.T) {
	for _, colours := range []int{8, 9, 32} {
		w := found(t, 8*colours, colours)
		for id := range 8 {
			w.ok(w.create(id, 1, 16*(id+1)))
			if got := w.a.Window(id); !slices.Equal(got, []int{id}) {
				t.Fatal(id, got)
			}
			w.is(w.create(id, 1, 16), api.ErrThere)
		}
		var all [8]uint64
		for id := range 8 {
			all[id] = w.filled(id, 16, id)
			if want := bitsOf(id, 0, 1); all[id] != want {
				t.Fatal(all[id], want)
			}
			w.is(w.malloc(id, 16*id+1).Err, api.ErrQuota)
		}
		// Nobody knows another one's handle.
		for id := range 8 {
			for _, h := range all {
				if got := w.a.Tenant(id).Usable(h); (got.Err == api.OK) != (h == all[id]) {
					t.Fatal(id, h, got)
				}
			}
		}
		for _, id := range []int{3, 0, 7, 5, 1, 2, 4, 6} {
			w.ok(w.destroy(id))
			w.is(w.destroy(id), api.ErrNoTenant)
			w.is(w.resize(id, 1, 16), api.ErrNoTenant)
		}
		if w.a.Free() != colours {
			t.Fatal(w.a.Free())
		}
	}
}

// Who is made is granted the lowest colours that nobody has, wherever they are.
func TestCreateIsGrantedTheLowest(t *testing.T) {
	w := found(t, 48, 6)
	for id := range 6 {
		w.ok(w.create(id, 1, 16))
	}
	for _, id := range []int{4, 1, 3} {
		w.ok(w.destroy(id))
	}
	w.ok(w.create(7, 2, 20))
	if got := w.a.Window(7); !slices.Equal(got, []int{1, 3}) {
		t.Fatal(got)
	}
	w.ok(w.create(1, 1, 20))
	if got := w.a.Window(1); !slices.Equal(got, []int{4}) {
		t.Fatal(got)
	}
}

// What was refused has granted nothing, and the number's serial stays.
func TestCreateThatIsRefusedDoesNothing(t *testing.T) {
	w := found(t, 64, 4)
	w.ok(w.create(2, 1, 100))
	for range 3 {
		w.malloc(2, 16)
	}
	w.ok(w.destroy(2))
	for _, one := range [][3]int{{2, 0, 16}, {2, 5, 16}, {2, 1, 0}, {2, 1, 65537}, {2, 1, 1500}, {8, 1, 16}} {
		if w.create(one[0], one[1], one[2]) == api.OK || w.a.Free() != 4 || w.a.Serial(2) != 4 || w.a.Tenant(2) != nil {
			t.Fatal(one, w.a.Free(), w.a.Serial(2))
		}
	}
	w.ok(w.create(2, 4, 100))
	if w.is(w.create(3, 1, 16), api.ErrColours); w.a.Tenant(3) != nil || w.a.Serial(3) != 1 {
		t.Fatal(w.a.Tenant(3), w.a.Serial(3))
	}
}

// P20.5

func TestNil(t *testing.T) {
	var a *Admin
	for _, id := range append([]int{0, 1, 7}, nobodies...) {
		for _, n := range append([]int{1, 16}, far...) {
			if err := a.Create(id, n, n); err != api.ErrNil {
				t.Fatal(id, n, err)
			}
			if err := a.Resize(id, n, n); err != api.ErrNil {
				t.Fatal(id, n, err)
			}
		}
		if err := a.Destroy(id); err != api.ErrNil {
			t.Fatal(id, err)
		}
		if x, window, serial := a.Tenant(id), a.Window(id), a.Serial(id); x != nil || len(window) != 0 || serial != 0 {
			t.Fatal(id, x, window, serial)
		}
	}
	if a.Arena() != nil || a.Free() != 0 {
		t.Fatal(a.Arena(), a.Free())
	}
}

// One that nobody made by New has no colour.
func TestAdminThatNewDidNotMake(t *testing.T) {
	a := new(Admin)
	for _, id := range append([]int{0, 7}, nobodies...) {
		for _, n := range append([]int{1, 16}, far...) {
			if a.Create(id, n, n) == api.OK || a.Resize(id, n, n) == api.OK {
				t.Fatal(id, n)
			}
		}
		if a.Destroy(id) == api.OK || a.Tenant(id) != nil || len(a.Window(id)) != 0 {
			t.Fatal(id)
		}
	}
	if a.Free() != 0 || a.Arena() != nil {
		t.Fatal(a.Free())
	}
}

func TestExamples(t *testing.T) {
	w := found(t, 64, 4)
	if pagesFor(100) != 5 || pagesFor(1500) != 28 {
		t.Fatal(pagesFor(100), pagesFor(1500))
	}
	w.is(w.create(0, 1, 100), api.OK)
	w.is(w.create(0, 1, 100), api.ErrThere)
	w.is(w.create(1, 1, 1500), api.ErrFit)
	w.is(w.create(1, 3, 1500), api.OK)
	w.is(w.create(2, 1, 16), api.ErrColours)
	w.is(w.resize(0, 2, 100), api.ErrColours)
	w.is(w.resize(1, 2, 1500), api.OK)
	if got := w.a.Window(1); !slices.Equal(got, []int{1, 2}) {
		t.Fatal(got)
	}
	w.is(w.resize(0, 2, 1500), api.OK)
	if got := w.a.Window(0); !slices.Equal(got, []int{0, 3}) {
		t.Fatal(got)
	}
}

// Those of the whole that are the administrator's: 1, 2, 8 and 9.
func TestExamplesOfTheWhole(t *testing.T) {
	w := found(t, 64, 4)
	w.ok(w.create(0, 1, 100))
	if r := w.malloc(0, 40); r != (api.Answer{Handle: 1048688, Addr: 393216, Charged: 48}) {
		t.Fatal(r)
	}
	w.ok(w.create(1, 3, 1500))
	w.is(w.resize(0, 2, 100), api.ErrColours)
	w.ok(w.destroy(0))
	w.ok(w.create(0, 1, 100))
	if r := w.malloc(0, 40); r != (api.Answer{Handle: 1048688 + 1<<20, Addr: 393216, Charged: 48}) {
		t.Fatal(r)
	}
}
