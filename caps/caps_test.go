package caps

import (
	"maps"
	"math"
	"math/rand"
	"slices"
	"testing"

	"garth/api"
	"garth/handle"
)

const (
	objects = 4096
	slots   = 4160
	last    = 1 << 44
)

// far are numbers that are neither a tenant nor a serial; the lower bits of some would be.
var far = []int{math.MinInt, math.MinInt + 1, math.MinInt32, -1 << 44, -1<<44 + 1, -1 << 32, -1<<32 + 1, -8, -7, -2, -1, last + 1, last + 2, 1 << 45, 1<<45 + 1, 1<<62 + 1, math.MaxInt - 1, math.MaxInt}

// The rights of which some may be asked for, and such as may not.
var anyRights = append([]int{0, 1, 2, 3, 4, 5, 6, 7, 8, 9, 15, 16, 23, 255, 256, 1 << 32, 1<<32 + 1, -3, -4, -6, -9, -16}, far...)

// addresses are such as may be: 0, which a free slot might be thought to have, and the greatest.
var addresses = []int{0, 1, 16, 512, 528, 1<<17*24 - 16, 1 << 32, 1 << 44, math.MaxInt}

// wrongAddresses may not be.
var wrongAddresses = []int{-1, -2, -16, -512, -1 << 32, math.MinInt, math.MinInt + 1}

type has struct{ addr, rights, serial int }

// plain is a table the plain way: the slots that aren't free.
type plain struct {
	tenant, serial int
	taken          map[int]has
}

func weigh(tenant, slot, rights, serial int) uint64 {
	return uint64(tenant) + 16*uint64(rights) + 128*uint64(slot) + 1<<20*uint64(serial)
}

func (p *plain) bits(slot int) uint64 {
	s := p.taken[slot]
	return weigh(p.tenant, slot, s.rights, s.serial)
}

// good are all handles that are good, by rising slots.
func (p *plain) good() []uint64 {
	var out []uint64
	for _, slot := range slices.Sorted(maps.Keys(p.taken)) {
		out = append(out, p.bits(slot))
	}
	return out
}

func (p *plain) find(h uint64) (has, bool) {
	for slot, s := range p.taken {
		if p.bits(slot) == h {
			return s, true
		}
	}
	return has{}, false
}

// hasAll asks bit by bit.
func hasAll(rights, asked int) bool {
	for _, right := range []int{1, 2, 4} {
		if asked&right != 0 && rights&right == 0 {
			return false
		}
	}
	return true
}

func (p *plain) give(first, end int, s has) (uint64, api.Errno) {
	if p.serial == last {
		return 0, api.ErrMany
	}
	for slot := first; slot < end; slot++ {
		if _, there := p.taken[slot]; !there {
			s.serial = p.serial
			p.serial++
			p.taken[slot] = s
			return p.bits(slot), api.OK
		}
	}
	return 0, api.ErrMany
}

func (p *plain) grant(addr int) (uint64, api.Errno) {
	if addr < 0 {
		return 0, api.ErrArg
	}
	return p.give(0, objects, has{addr: addr, rights: 7})
}

func (p *plain) restrict(h uint64, rights int) (uint64, api.Errno) {
	s, good := p.find(h)
	switch {
	case !good:
		return 0, api.ErrBadHandle
	case rights < 1 || rights > 7:
		return 0, api.ErrSize
	case !hasAll(s.rights, rights):
		return 0, api.ErrBadHandle
	}
	return p.give(objects, slots, has{addr: s.addr, rights: rights})
}

func (p *plain) revoke(addr int) int {
	n := 0
	for slot, s := range p.taken {
		if s.addr == addr {
			delete(p.taken, slot)
			n++
		}
	}
	return n
}

func (p *plain) copy() *plain {
	return &plain{p.tenant, p.serial, maps.Clone(p.taken)}
}

// fresh makes a table, and a plain one beside it.
func fresh(t *testing.T, tenant, serial int) (*Caps, *plain) {
	t.Helper()
	c, err := New(tenant, serial)
	if err != api.OK || c == nil {
		t.Fatalf("New(%d, %d): %v, %d", tenant, serial, c != nil, err)
	}
	return c, &plain{tenant, serial, map[int]has{}}
}

func badHandle(t *testing.T, c *Caps, h uint64) {
	t.Helper()
	for _, rights := range anyRights {
		if addr, err := c.Find(h, rights); addr != 0 || err != api.ErrBadHandle {
			t.Fatalf("Find(%#x, %d): %d, %d", h, rights, addr, err)
		}
	}
	serial, count := c.Serial(), c.Count()
	for _, rights := range anyRights {
		if got, err := c.Restrict(h, rights); got != 0 || err != api.ErrBadHandle {
			t.Fatalf("Restrict(%#x, %d): %#x, %d", h, rights, got, err)
		}
	}
	if c.Serial() != serial || c.Count() != count {
		t.Fatalf("%#x: the next serial is %d, was %d; %d slots, were %d", h, c.Serial(), serial, c.Count(), count)
	}
}

// goodHandle holds Find of a good one with any rights.
func goodHandle(t *testing.T, c *Caps, h uint64, addr, rights int) {
	t.Helper()
	for _, asked := range anyRights {
		want, wantErr := addr, api.OK
		if asked < 0 || asked > 7 || !hasAll(rights, asked) {
			want, wantErr = 0, api.ErrBadHandle
		}
		if got, err := c.Find(h, asked); got != want || err != wantErr {
			t.Fatalf("Find(%#x, %d): %d, %d; want %d, %d", h, asked, got, err, want, wantErr)
		}
	}
}

// is holds all that a table tells without being changed against the plain one.
func is(t *testing.T, c *Caps, p *plain) {
	t.Helper()
	if c.Serial() != p.serial || c.Count() != len(p.taken) {
		t.Fatalf("the next serial is %d, want %d; %d slots are taken, want %d", c.Serial(), p.serial, c.Count(), len(p.taken))
	}
	for slot, s := range p.taken {
		goodHandle(t, c, p.bits(slot), s.addr, s.rights)
	}
}

// goesOn fills what is left of both tables: so is told which slots are free, whatever they seem to be.
func goesOn(t *testing.T, c *Caps, p *plain) {
	t.Helper()
	is(t, c, p)
	a, b := c.Copy(), p.copy()
	for grants(t, a, b, 77) != 0 {
	}
	for restricts(t, a, b, b.bits(0), 1) != 0 {
	}
	is(t, a, b)
	is(t, c, p)
}

// grants grants of both, and holds the answers against each other; so do restricts and revokes.
func grants(t *testing.T, c *Caps, p *plain, addr int) uint64 {
	t.Helper()
	want, wantErr := p.grant(addr)
	got, err := c.Grant(addr)
	if got != want || err != wantErr {
		t.Fatalf("Grant(%d): %#x, %d; want %#x, %d", addr, got, err, want, wantErr)
	}
	return got
}

func restricts(t *testing.T, c *Caps, p *plain, h uint64, rights int) uint64 {
	t.Helper()
	want, wantErr := p.restrict(h, rights)
	got, err := c.Restrict(h, rights)
	if got != want || err != wantErr {
		t.Fatalf("Restrict(%#x, %d): %#x, %d; want %#x, %d", h, rights, got, err, want, wantErr)
	}
	return got
}

func revokes(t *testing.T, c *Caps, p *plain, addr int) int {
	t.Helper()
	want := p.revoke(addr)
	if got := c.Revoke(addr); got != want {
		t.Fatalf("Revoke(%d): %d, want %d", addr, got, want)
	}
	return want
}

// refuses asks for an error, and that nothing has changed.
func refuses(t *testing.T, c *Caps, p *plain, what string, want api.Errno, call func() (uint64, api.Errno)) {
	t.Helper()
	if got, err := call(); got != 0 || err != want {
		t.Fatalf("%s: %#x, %d; want %d", what, got, err, want)
	}
	is(t, c, p)
}

// fullOfObjects has 4096 of them: the address of each is its slot times 16.
func fullOfObjects(t *testing.T, c *Caps, p *plain) []uint64 {
	t.Helper()
	var out []uint64
	for k := range objects {
		out = append(out, grants(t, c, p, 16*k))
	}
	return out
}

func fullOfShares(t *testing.T, c *Caps, p *plain, h uint64) []uint64 {
	t.Helper()
	var out []uint64
	for range slots - objects {
		out = append(out, restricts(t, c, p, h, 7))
	}
	return out
}

// P10.1

func TestNewOfTenantsAndSerials(t *testing.T) {
	tenants := append([]int{0, 1, 2, 3, 4, 5, 6, 7, 8, 9, 15, 16, 256, 1 << 32}, far...)
	serials := append([]int{0, 1, 2, 3, 1 << 20, 1 << 31, 1 << 32, 1<<32 + 1, last - 1, last}, far...)
	for _, tenant := range tenants {
		for _, serial := range serials {
			c, err := New(tenant, serial)
			if tenant < 0 || tenant > 7 || serial < 1 || serial > 1<<44 {
				if c != nil || err != api.ErrArg {
					t.Fatalf("New(%d, %d): %v, %d", tenant, serial, c != nil, err)
				}
				continue
			}
			if c == nil || err != api.OK {
				t.Fatalf("New(%d, %d): %v, %d", tenant, serial, c != nil, err)
			}
			if c.Serial() != serial || c.Count() != 0 {
				t.Fatalf("New(%d, %d): the next serial is %d, %d slots are taken", tenant, serial, c.Serial(), c.Count())
			}
		}
	}
}

func TestFreshTableHasNoGoodHandle(t *testing.T) {
	for _, tenant := range []int{0, 7} {
		c, p := fresh(t, tenant, 1)
		for slot := range slots {
			for _, serial := range []int{0, 1, 2, last - 1} {
				for rights := range 8 {
					h := weigh(tenant, slot, rights, serial)
					if addr, err := c.Find(h, 0); addr != 0 || err != api.ErrBadHandle {
						t.Fatalf("Find(%#x, 0): %d, %d", h, addr, err)
					}
				}
			}
		}
		for _, addr := range append(addresses, wrongAddresses...) {
			if n := c.Revoke(addr); n != 0 {
				t.Fatalf("Revoke(%d) of none: %d", addr, n)
			}
		}
		goesOn(t, c, p)
	}
}

func TestSerialAndCountStepByStep(t *testing.T) {
	c, p := fresh(t, 5, 1<<32)
	a := grants(t, c, p, 0)
	grants(t, c, p, 0)
	grants(t, c, p, 16)
	if c.Serial() != 1<<32+3 || c.Count() != 3 {
		t.Fatal(c.Serial(), c.Count())
	}
	restricts(t, c, p, a, 1)
	if c.Serial() != 1<<32+4 || c.Count() != 4 {
		t.Fatal(c.Serial(), c.Count())
	}
	c.Grant(-1)
	c.Restrict(a, 8)
	c.Restrict(a+1, 1)
	c.Find(a, 8)
	if c.Serial() != 1<<32+4 || c.Count() != 4 {
		t.Fatal(c.Serial(), c.Count())
	}
	if n := c.Revoke(0); n != 3 || c.Serial() != 1<<32+4 || c.Count() != 1 {
		t.Fatal(n, c.Serial(), c.Count())
	}
}

// P10.2

func TestGrantOfAddresses(t *testing.T) {
	for tenant := range 8 {
		for _, serial := range []int{1, 2, 1<<32 - 1, last - 100} {
			c, p := fresh(t, tenant, serial)
			for k, addr := range addresses {
				h, err := c.Grant(addr)
				if h != weigh(tenant, k, 7, serial+k) || err != api.OK {
					t.Fatalf("Grant(%d): %#x, %d", addr, h, err)
				}
				if key, err := handle.Unpack(h); key != (api.Key{Tenant: tenant, Slot: k, Rights: 7, Serial: serial + k}) || err != api.OK {
					t.Fatalf("%#x: %+v, %d", h, key, err)
				}
				p.grant(addr)
				for _, wrong := range wrongAddresses {
					refuses(t, c, p, "Grant below 0", api.ErrArg, func() (uint64, api.Errno) { return c.Grant(wrong) })
				}
			}
			goesOn(t, c, p)
		}
	}
}

func TestAllSlotsForObjects(t *testing.T) {
	c, p := fresh(t, 7, 1)
	all := fullOfObjects(t, c, p)
	if all[0] != weigh(7, 0, 7, 1) || all[4095] != weigh(7, 4095, 7, 4096) || c.Count() != 4096 || c.Serial() != 4097 {
		t.Fatalf("%#x, %#x, %d, %d", all[0], all[4095], c.Count(), c.Serial())
	}
	for _, addr := range addresses {
		refuses(t, c, p, "Grant of a full table", api.ErrMany, func() (uint64, api.Errno) { return c.Grant(addr) })
	}
	// Two errors at once.
	refuses(t, c, p, "Grant below 0 of a full table", api.ErrArg, func() (uint64, api.Errno) { return c.Grant(-1) })
	// Slots for shares are free, and are none for objects; a full table still has them.
	share := restricts(t, c, p, all[4095], 5)
	if share != weigh(7, 4096, 5, 4097) {
		t.Fatalf("%#x", share)
	}
	refuses(t, c, p, "Grant of a full table", api.ErrMany, func() (uint64, api.Errno) { return c.Grant(0) })
	// The address of the last one has two slots; one of them is for objects.
	if n := revokes(t, c, p, 16*4095); n != 2 {
		t.Fatal(n)
	}
	if h := grants(t, c, p, 3); h != weigh(7, 4095, 7, 4098) {
		t.Fatalf("%#x", h)
	}
	refuses(t, c, p, "Grant of a full table", api.ErrMany, func() (uint64, api.Errno) { return c.Grant(0) })
	is(t, c, p)
}

func TestGrantAtTheLastSerial(t *testing.T) {
	c, p := fresh(t, 3, last-1)
	h := grants(t, c, p, 64)
	if h != weigh(3, 0, 7, last-1) || c.Serial() != last || c.Count() != 1 {
		t.Fatalf("%#x, %d, %d", h, c.Serial(), c.Count())
	}
	goodHandle(t, c, h, 64, 7)
	for range 3 {
		refuses(t, c, p, "Grant behind the last serial", api.ErrMany, func() (uint64, api.Errno) { return c.Grant(80) })
		refuses(t, c, p, "Grant below 0 behind the last serial", api.ErrArg, func() (uint64, api.Errno) { return c.Grant(-1) })
	}
	if n := revokes(t, c, p, 64); n != 1 {
		t.Fatal(n)
	}
	refuses(t, c, p, "Grant behind the last serial", api.ErrMany, func() (uint64, api.Errno) { return c.Grant(64) })
	badHandle(t, c, h)

	c, p = fresh(t, 0, last)
	refuses(t, c, p, "Grant of the serial 2^44", api.ErrMany, func() (uint64, api.Errno) { return c.Grant(0) })
	refuses(t, c, p, "Grant below 0 of the serial 2^44", api.ErrArg, func() (uint64, api.Errno) { return c.Grant(-1) })
}

func TestSlotsThatCameFreeAmidTakenOnes(t *testing.T) {
	c, p := fresh(t, 1, 1)
	fullOfObjects(t, c, p)
	came := []int{4095, 0, 63, 64, 65, 127, 128, 2048, 1, 4094, 1000}
	for _, slot := range came {
		if n := revokes(t, c, p, 16*slot); n != 1 {
			t.Fatal(slot, n)
		}
	}
	is(t, c, p)
	slices.Sort(came)
	for k, slot := range came {
		if h := grants(t, c, p, 5); h != weigh(1, slot, 7, 4097+k) {
			t.Fatalf("%#x, want slot %d", h, slot)
		}
	}
	refuses(t, c, p, "Grant of a full table", api.ErrMany, func() (uint64, api.Errno) { return c.Grant(5) })
	if n := revokes(t, c, p, 5); n != len(came) {
		t.Fatal(n)
	}
	goesOn(t, c, p)
}

// P10.3

func TestFindOfEveryRights(t *testing.T) {
	c, p := fresh(t, 6, 9)
	h := grants(t, c, p, 0)
	other := grants(t, c, p, math.MaxInt)
	for rights := 1; rights <= 7; rights++ {
		a, b := restricts(t, c, p, h, rights), restricts(t, c, p, other, rights)
		for asked := -20; asked <= 20; asked++ {
			want := api.ErrBadHandle
			if asked >= 0 && asked <= 7 && asked|rights == rights {
				want = api.OK
			}
			if addr, err := c.Find(a, asked); addr != 0 || err != want {
				t.Fatalf("rights %d: Find with %d: %d, %d", rights, asked, addr, err)
			}
			addr, err := c.Find(b, asked)
			if err != want || want == api.OK && addr != math.MaxInt || want != api.OK && addr != 0 {
				t.Fatalf("rights %d: Find with %d: %d, %d", rights, asked, addr, err)
			}
		}
	}
	for asked, want := range map[int]api.Errno{-1: api.ErrBadHandle, 0: api.OK, 1: api.OK, 7: api.OK, 8: api.ErrBadHandle, 15: api.ErrBadHandle, math.MinInt: api.ErrBadHandle} {
		if _, err := c.Find(h, asked); err != want {
			t.Fatalf("Find with %d: %d", asked, err)
		}
	}
	goesOn(t, c, p)
}

func TestEachBitOfAGoodHandleTurned(t *testing.T) {
	for _, serial := range []int{1, 1 << 20, 1<<43 - 5, last - 70} {
		c, p := fresh(t, 2, serial)
		for k := range 40 {
			grants(t, c, p, 16*k)
		}
		for k := range 20 {
			restricts(t, c, p, p.bits(k), 1+k%7)
		}
		for _, h := range p.good() {
			for at := range 64 {
				turned := h ^ 1<<at
				if _, good := p.find(turned); good {
					t.Fatalf("%#x and %#x are both good", h, turned)
				}
				badHandle(t, c, turned)
			}
		}
		is(t, c, p)
	}
}

// All keys beside a good one: another tenant, slot, serial or other rights.
func TestKeysBesideAGoodOne(t *testing.T) {
	c, p := fresh(t, 4, 3)
	h := grants(t, c, p, 0)
	share := restricts(t, c, p, h, 3)
	good := 0
	for tenant := range 16 {
		for rights := range 8 {
			for slot := range 8192 {
				for serial := 2; serial <= 5; serial++ {
					bits := weigh(tenant, slot, rights, serial)
					addr, err := c.Find(bits, 0)
					if bits == h || bits == share {
						good++
						if addr != 0 || err != api.OK {
							t.Fatalf("Find(%#x, 0): %d, %d", bits, addr, err)
						}
					} else if addr != 0 || err != api.ErrBadHandle {
						t.Fatalf("Find(%#x, 0): %d, %d", bits, addr, err)
					}
				}
			}
		}
	}
	if good != 2 {
		t.Fatal(good)
	}
}

func TestNoBitsAndAllBits(t *testing.T) {
	c, p := fresh(t, 0, 1)
	badHandle(t, c, 0)
	badHandle(t, c, math.MaxUint64)
	h := grants(t, c, p, 0)
	fullOfShares(t, c, p, h)
	badHandle(t, c, 0)
	badHandle(t, c, math.MaxUint64)
	is(t, c, p)
}

func TestHandlesOfAnotherTenantAndTable(t *testing.T) {
	a, p := fresh(t, 2, 1)
	b, q := fresh(t, 3, 1)
	later, r := fresh(t, 2, 1000)
	for k := range 50 {
		grants(t, a, p, 16*k)
		grants(t, b, q, 16*k)
		grants(t, later, r, 16*k)
	}
	for k := range 50 {
		restricts(t, a, p, p.bits(k), 1+k%7)
		restricts(t, b, q, q.bits(k), 1+k%7)
		restricts(t, later, r, r.bits(k), 1+k%7)
	}
	for _, c := range []struct {
		at   *Caps
		from *plain
	}{{a, q}, {a, r}, {b, p}, {b, r}, {later, p}, {later, q}} {
		for _, h := range c.from.good() {
			badHandle(t, c.at, h)
		}
	}
	is(t, a, p)
	is(t, b, q)
	is(t, later, r)
	// What one does the others don't tell.
	revokes(t, a, p, 0)
	is(t, b, q)
	is(t, later, r)
	goesOn(t, a, p)
}

// P10.4

func TestRestrictToEveryRights(t *testing.T) {
	for from := 1; from <= 7; from++ {
		c, p := fresh(t, 5, 1)
		grants(t, c, p, 48)
		h := restricts(t, c, p, grants(t, c, p, 528), from)
		slot := objects + 1
		for to := -20; to <= 20; to++ {
			before := c.Serial()
			got, err := c.Restrict(h, to)
			want, wantErr := p.restrict(h, to)
			if got != want || err != wantErr {
				t.Fatalf("%d to %d: %#x, %d; want %#x, %d", from, to, got, err, want, wantErr)
			}
			switch {
			case to < 1 || to > 7:
				wantErr = api.ErrSize
			case to|from != from:
				wantErr = api.ErrBadHandle
			default:
				wantErr = api.OK
				if got != weigh(5, slot, to, before) || c.Serial() != before+1 {
					t.Fatalf("%d to %d: %#x", from, to, got)
				}
				goodHandle(t, c, got, 528, to)
				slot++
			}
			if err != wantErr {
				t.Fatalf("%d to %d: %d, want %d", from, to, err, wantErr)
			}
			is(t, c, p)
		}
		for _, to := range far {
			refuses(t, c, p, "Restrict to what may not be", api.ErrSize, func() (uint64, api.Errno) { return c.Restrict(h, to) })
		}
		goesOn(t, c, p)
	}
}

func TestAllSlotsForShares(t *testing.T) {
	c, p := fresh(t, 7, 1)
	h := grants(t, c, p, 0)
	reader := restricts(t, c, p, h, 1)
	for k := 1; k < 64; k++ {
		if got := restricts(t, c, p, h, 1+k%7); got != weigh(7, 4096+k, 1+k%7, 2+k) {
			t.Fatalf("%#x", got)
		}
	}
	if c.Count() != 65 || c.Serial() != 66 {
		t.Fatal(c.Count(), c.Serial())
	}
	restrict := func(h uint64, rights int) func() (uint64, api.Errno) {
		return func() (uint64, api.Errno) { return c.Restrict(h, rights) }
	}
	for rights := 1; rights <= 7; rights++ {
		refuses(t, c, p, "Restrict of a full table", api.ErrMany, restrict(h, rights))
	}
	refuses(t, c, p, "Restrict of a full table", api.ErrMany, restrict(reader, 1))
	// Two errors at once, and three.
	refuses(t, c, p, "Restrict to 0 of a full table", api.ErrSize, restrict(h, 0))
	refuses(t, c, p, "Restrict to 8 of a full table", api.ErrSize, restrict(reader, 8))
	refuses(t, c, p, "Restrict to more of a full table", api.ErrBadHandle, restrict(reader, 3))
	refuses(t, c, p, "Restrict of no handle of a full table", api.ErrBadHandle, restrict(h+1, 1))
	refuses(t, c, p, "Restrict of no handle to 0 of a full table", api.ErrBadHandle, restrict(h+1, 0))
	// Objects have their own.
	if got := grants(t, c, p, 16); got != weigh(7, 1, 7, 66) {
		t.Fatalf("%#x", got)
	}
	refuses(t, c, p, "Restrict of a full table", api.ErrMany, restrict(h, 1))
	if n := revokes(t, c, p, 0); n != 65 {
		t.Fatal(n)
	}
	if got := restricts(t, c, p, p.bits(1), 2); got != weigh(7, 4096, 2, 67) {
		t.Fatalf("%#x", got)
	}
	goesOn(t, c, p)
}

func TestAllSlotsTaken(t *testing.T) {
	c, p := fresh(t, 0, 5)
	all := fullOfObjects(t, c, p)
	for k := range 64 {
		restricts(t, c, p, all[k*65], 7)
	}
	if c.Count() != 4160 || c.Serial() != 5+4160 {
		t.Fatal(c.Count(), c.Serial())
	}
	for range 2 {
		refuses(t, c, p, "Grant", api.ErrMany, func() (uint64, api.Errno) { return c.Grant(0) })
		refuses(t, c, p, "Restrict", api.ErrMany, func() (uint64, api.Errno) { return c.Restrict(all[1], 1) })
	}
	for k := range objects {
		want := 1
		if k%65 == 0 && k/65 < 64 {
			want = 2
		}
		if n := revokes(t, c, p, 16*k); n != want {
			t.Fatal(k, n)
		}
	}
	if c.Count() != 0 || c.Serial() != 5+4160 {
		t.Fatal(c.Count(), c.Serial())
	}
	goesOn(t, c, p)
}

func TestRestrictAtTheLastSerial(t *testing.T) {
	c, p := fresh(t, 6, last-3)
	h := grants(t, c, p, 0)
	reader := restricts(t, c, p, h, 1)
	if got := restricts(t, c, p, h, 6); got != weigh(6, 4097, 6, last-1) || c.Serial() != last {
		t.Fatalf("%#x, %d", got, c.Serial())
	}
	restrict := func(h uint64, rights int) func() (uint64, api.Errno) {
		return func() (uint64, api.Errno) { return c.Restrict(h, rights) }
	}
	for range 2 {
		refuses(t, c, p, "Restrict behind the last serial", api.ErrMany, restrict(h, 1))
		refuses(t, c, p, "Restrict to 0", api.ErrSize, restrict(h, 0))
		refuses(t, c, p, "Restrict to -1", api.ErrSize, restrict(reader, -1))
		refuses(t, c, p, "Restrict to more", api.ErrBadHandle, restrict(reader, 2))
		refuses(t, c, p, "Restrict of no handle", api.ErrBadHandle, restrict(0, 1))
		refuses(t, c, p, "Restrict of no handle to 8", api.ErrBadHandle, restrict(0, 8))
	}
	goesOn(t, c, p)
}

// Rights that may not be are told ahead of those that the handle hasn't; a handle that isn't good is told ahead of both.
func TestErrorsAtOnce(t *testing.T) {
	c, p := fresh(t, 1, 1)
	h := grants(t, c, p, 16)
	reader := restricts(t, c, p, h, 1)
	stale := grants(t, c, p, 32)
	revokes(t, c, p, 32)
	for _, bad := range []uint64{0, math.MaxUint64, stale, h ^ 1<<20, reader ^ 1<<5} {
		badHandle(t, c, bad)
	}
	for _, rights := range []int{0, 8, -1, 10, -2, math.MinInt, math.MaxInt} {
		refuses(t, c, p, "Restrict to what may not be", api.ErrSize, func() (uint64, api.Errno) { return c.Restrict(reader, rights) })
	}
	for _, rights := range []int{2, 3, 4, 5, 6, 7} {
		refuses(t, c, p, "Restrict to more", api.ErrBadHandle, func() (uint64, api.Errno) { return c.Restrict(reader, rights) })
	}
}

func TestRestrictedAgainAndAgain(t *testing.T) {
	c, p := fresh(t, 2, 1)
	first := grants(t, c, p, 0)
	h := first
	for k, rights := range []int{7, 7, 6, 6, 2, 2, 2} {
		next := restricts(t, c, p, h, rights)
		if next != weigh(2, 4096+k, rights, 2+k) {
			t.Fatalf("%#x", next)
		}
		for more := 1; more <= 7; more++ {
			if more|rights != rights {
				refuses(t, c, p, "Restrict to more", api.ErrBadHandle, func() (uint64, api.Errno) { return c.Restrict(next, more) })
			}
		}
		h = next
	}
	// All of them are good as they were.
	is(t, c, p)
	goodHandle(t, c, first, 0, 7)
	if n := revokes(t, c, p, 0); n != 8 {
		t.Fatal(n)
	}
	badHandle(t, c, first)
	badHandle(t, c, h)
}

// P10.5

func TestOneAddressGrantedSeveralTimes(t *testing.T) {
	for _, addr := range addresses {
		c, p := fresh(t, 3, 1)
		other := 1 << 20
		var gone, kept []uint64
		for k := range 12 {
			if k%3 == 0 {
				kept = append(kept, grants(t, c, p, other))
				continue
			}
			h := grants(t, c, p, addr)
			gone = append(gone, h)
			if k%2 == 0 {
				gone = append(gone, restricts(t, c, p, h, 1+k%7))
				kept = append(kept, restricts(t, c, p, kept[0], 5))
			}
		}
		if n := revokes(t, c, p, addr); n != len(gone) || c.Count() != len(kept) {
			t.Fatalf("Revoke(%d): %d, %d are left", addr, n, c.Count())
		}
		for _, h := range gone {
			badHandle(t, c, h)
		}
		is(t, c, p)
		if n := revokes(t, c, p, addr); n != 0 {
			t.Fatalf("Revoke(%d) once more: %d", addr, n)
		}
		goesOn(t, c, p)
		// The slots go out again, the lowest ones first.
		for _, slot := range []int{1, 2, 4, 5, 7, 8, 10, 11, 12} {
			if h := grants(t, c, p, addr); h&(1<<20-1) != weigh(3, slot, 7, 0) {
				t.Fatalf("%#x, want slot %d", h, slot)
			}
		}
		for _, h := range gone {
			badHandle(t, c, h)
		}
		is(t, c, p)
	}
}

func TestRevokeOfWhatNobodyHas(t *testing.T) {
	c, p := fresh(t, 3, 1)
	h := grants(t, c, p, 16)
	restricts(t, c, p, h, 4)
	for _, addr := range append([]int{0, 1, 15, 17, 32, 16 + 1<<32, math.MaxInt}, wrongAddresses...) {
		if n := c.Revoke(addr); n != 0 {
			t.Fatalf("Revoke(%d): %d", addr, n)
		}
		is(t, c, p)
	}
	goesOn(t, c, p)
}

func TestRevokeOfAllOfOneAddress(t *testing.T) {
	for _, addr := range []int{0, 528} {
		c, p := fresh(t, 3, 1)
		for range objects {
			grants(t, c, p, addr)
		}
		fullOfShares(t, c, p, p.bits(0))
		if n := revokes(t, c, p, addr); n != 4160 || c.Count() != 0 || c.Serial() != 4161 {
			t.Fatal(n, c.Count(), c.Serial())
		}
		if h := grants(t, c, p, addr); h != weigh(3, 0, 7, 4161) {
			t.Fatalf("%#x", h)
		}
		goesOn(t, c, p)
	}
}

func TestSharesThatCameFreeAmidTakenOnes(t *testing.T) {
	c, p := fresh(t, 4, 1)
	var of []uint64
	for k := range 64 {
		h := grants(t, c, p, k)
		of = append(of, h)
		restricts(t, c, p, h, 1+k%7)
	}
	for _, k := range []int{63, 0, 31, 32, 1, 62} {
		if n := revokes(t, c, p, k); n != 2 {
			t.Fatal(k, n)
		}
	}
	is(t, c, p)
	for _, slot := range []int{0, 1, 31, 32, 62, 63} {
		serial := c.Serial()
		if h := restricts(t, c, p, of[10], 2); h != weigh(4, 4096+slot, 2, serial) {
			t.Fatalf("%#x, want slot %d", h, 4096+slot)
		}
	}
	refuses(t, c, p, "Restrict of a full table", api.ErrMany, func() (uint64, api.Errno) { return c.Restrict(of[10], 2) })
	goesOn(t, c, p)
}

// P10.6

func TestCopyOfWhichEitherGoesOn(t *testing.T) {
	c, p := fresh(t, 1, 7)
	for k := range 100 {
		grants(t, c, p, k%9)
	}
	for k := range 30 {
		restricts(t, c, p, p.bits(k), 1+k%7)
	}
	revokes(t, c, p, 3)
	for _, first := range []bool{true, false} {
		d, q := c.Copy(), p.copy()
		is(t, d, q)
		a, v, b, w := c, p, d, q
		if first {
			a, v, b, w = d, q, c, p
		}
		grants(t, a, v, 1000)
		restricts(t, a, v, v.bits(0), 1)
		is(t, b, w)
		revokes(t, a, v, 0)
		is(t, b, w)
		revokes(t, b, w, 1)
		grants(t, b, w, 2000)
		is(t, a, v)
		is(t, b, w)
		goesOn(t, a, v)
		goesOn(t, b, w)
	}
}

func TestCopyOfFullAndOfEndedTables(t *testing.T) {
	c, p := fresh(t, 1, last-4160)
	fullOfObjects(t, c, p)
	fullOfShares(t, c, p, p.bits(9))
	d, q := c.Copy(), p.copy()
	is(t, d, q)
	revokes(t, c, p, 16)
	refuses(t, d, q, "Grant of a full copy", api.ErrMany, func() (uint64, api.Errno) { return d.Grant(0) })
	refuses(t, c, p, "Grant behind the last serial", api.ErrMany, func() (uint64, api.Errno) { return c.Grant(0) })
	if c.Count() != 4159 || d.Count() != 4160 || d.Serial() != last {
		t.Fatal(c.Count(), d.Count(), d.Serial())
	}
}

func TestNil(t *testing.T) {
	var c *Caps
	for _, x := range append([]int{0, 1, 7, 8}, far...) {
		if h, err := c.Grant(x); h != 0 || err != api.ErrNil {
			t.Fatalf("Grant: %#x, %d", h, err)
		}
		for _, bits := range []uint64{0, 1048688, math.MaxUint64} {
			if addr, err := c.Find(bits, x); addr != 0 || err != api.ErrNil {
				t.Fatalf("Find: %d, %d", addr, err)
			}
			if h, err := c.Restrict(bits, x); h != 0 || err != api.ErrNil {
				t.Fatalf("Restrict: %#x, %d", h, err)
			}
		}
		if n := c.Revoke(x); n != 0 {
			t.Fatalf("Revoke: %d", n)
		}
	}
	if c.Serial() != 0 || c.Count() != 0 || c.Copy() != nil {
		t.Fatal(c.Serial(), c.Count(), c.Copy() != nil)
	}
}

// A table that New didn't make has no slots; its calls end all the same.
func TestZeroTable(t *testing.T) {
	for _, c := range []*Caps{new(Caps), new(Caps).Copy()} {
		if h, err := c.Grant(0); h != 0 || err != api.ErrMany {
			t.Errorf("Grant: %#x, %d", h, err)
		}
		badHandle(t, c, 0)
		badHandle(t, c, weigh(0, 0, 7, 1))
		badHandle(t, c, math.MaxUint64)
		if c.Revoke(0) != 0 || c.Serial() != 0 || c.Count() != 0 {
			t.Error(c.Revoke(0), c.Serial(), c.Count())
		}
	}
}

// P10.7

// TestEverySequence does all calls of a few in each order, up to five of them, from serials at both ends.
func TestEverySequence(t *testing.T) {
	for _, serial := range []int{1, last - 3} {
		c, p := fresh(t, 2, serial)
		sequences(t, c, p, 5)
	}
}

func sequences(t *testing.T, c *Caps, p *plain, left int) {
	t.Helper()
	is(t, c, p)
	if left == 0 {
		return
	}
	for _, call := range []func(*Caps, *plain){
		func(c *Caps, p *plain) { grants(t, c, p, 0) },
		func(c *Caps, p *plain) { grants(t, c, p, 16) },
		func(c *Caps, p *plain) { restricts(t, c, p, p.bits(0), 3) },
		func(c *Caps, p *plain) { restricts(t, c, p, p.bits(4096), 1) },
		func(c *Caps, p *plain) { revokes(t, c, p, 0) },
		func(c *Caps, p *plain) { revokes(t, c, p, 16) },
	} {
		a, b := c.Copy(), p.copy()
		call(a, b)
		sequences(t, a, b, left-1)
	}
}

// ever is all that a table gave out: by which handle it came, if by one.
type ever map[uint64]uint64

func (e ever) add(t *testing.T, h, from uint64) {
	t.Helper()
	if h == 0 {
		return
	}
	if _, there := e[h]; there {
		t.Fatalf("%#x is given out twice", h)
	}
	e[h] = from
}

// holds looks at all handles there ever were.
func (e ever) holds(t *testing.T, c *Caps, p *plain) {
	t.Helper()
	good := map[uint64]bool{}
	for _, h := range p.good() {
		good[h] = true
	}
	for h, from := range e {
		if !good[h] {
			if addr, err := c.Find(h, 0); addr != 0 || err != api.ErrBadHandle {
				t.Fatalf("%#x was revoked: %d, %d", h, addr, err)
			}
			continue
		}
		for _, right := range []int{1, 2, 4} {
			addr, err := c.Find(h, right)
			if err == api.OK && from != 0 {
				if other, err := c.Find(from, right); other != addr || err != api.OK {
					t.Fatalf("%#x has the right %d for %d; %#x, from which it came: %d, %d", h, right, addr, from, other, err)
				}
			}
		}
	}
}

func TestWalks(t *testing.T) {
	for seed := range 30 {
		r := rand.New(rand.NewSource(int64(seed)))
		serial := 1
		if seed%3 == 1 {
			serial = last - 200 - r.Intn(600)
		}
		c, p := fresh(t, seed%8, serial)
		walk(t, c, p, r, 1000)
	}
}

// walk goes on with a copy at times, so that nothing hangs on which of them it is.
func walk(t *testing.T, c *Caps, p *plain, r *rand.Rand, steps int) {
	t.Helper()
	e := ever{}
	var given []uint64
	some := func() uint64 {
		if len(given) == 0 || r.Intn(10) == 0 {
			return r.Uint64()
		}
		h := given[len(given)-1-r.Intn(min(len(given), 100))]
		if r.Intn(10) == 0 {
			h ^= 1 << r.Intn(64)
		}
		return h
	}
	for step := range steps {
		var h, from uint64
		switch r.Intn(8) {
		case 0, 1, 2:
			h = grants(t, c, p, 16*(r.Intn(30)-1))
		case 3, 4, 5:
			from = some()
			h = restricts(t, c, p, from, r.Intn(10)-1)
		case 6:
			revokes(t, c, p, 16*(r.Intn(30)-1))
		case 7:
			if r.Intn(20) == 0 {
				c = c.Copy()
			}
		}
		e.add(t, h, from)
		if h != 0 {
			given = append(given, h)
		}
		if step%50 == 0 {
			e.holds(t, c, p)
			is(t, c, p)
		}
	}
	e.holds(t, c, p)
	goesOn(t, c, p)
}

// A slot that goes out again and again never makes an old handle good.
func TestRevokedIsNeverGoodAgain(t *testing.T) {
	c, p := fresh(t, 7, 1)
	e := ever{}
	for range 200 {
		h := grants(t, c, p, 512)
		a := restricts(t, c, p, h, 7)
		b := restricts(t, c, p, a, 3)
		e.add(t, h, 0)
		e.add(t, a, h)
		e.add(t, b, a)
		if h&(1<<20-1) != weigh(7, 0, 7, 0) || a&(1<<20-1) != weigh(7, 4096, 7, 0) || b&(1<<20-1) != weigh(7, 4097, 3, 0) {
			t.Fatalf("%#x, %#x, %#x", h, a, b)
		}
		e.holds(t, c, p)
		if n := revokes(t, c, p, 512); n != 3 {
			t.Fatal(n)
		}
		e.holds(t, c, p)
	}
	for h := range e {
		badHandle(t, c, h)
	}
}

// A table made anew with the serial of the old one gives out no bits of it, as when a tenant is made again.
func TestMadeAgainWithTheNextSerial(t *testing.T) {
	e := ever{}
	serial := 1
	for range 5 {
		c, p := fresh(t, 3, serial)
		for k := range 300 {
			h := grants(t, c, p, 16*k)
			e.add(t, h, 0)
			if k%10 == 0 {
				e.add(t, restricts(t, c, p, h, 1), h)
			}
		}
		e.holds(t, c, p)
		serial = c.Serial()
	}
}

// The chapter's examples.

func TestExamples(t *testing.T) {
	c, _ := fresh(t, 2, 1)
	key := func(what string, h uint64, err api.Errno, want api.Key) uint64 {
		t.Helper()
		if got, _ := handle.Unpack(h); got != want || err != api.OK {
			t.Fatalf("%s: %+v, %d; want %+v", what, got, err, want)
		}
		return h
	}
	h, err := c.Grant(512)
	first := key("Grant(512)", h, err, api.Key{Tenant: 2, Slot: 0, Rights: 7, Serial: 1})
	h, err = c.Grant(528)
	key("Grant(528)", h, err, api.Key{Tenant: 2, Slot: 1, Rights: 7, Serial: 2})
	h, err = c.Restrict(first, 1)
	share := key("Restrict to 1", h, err, api.Key{Tenant: 2, Slot: 4096, Rights: 1, Serial: 3})
	if addr, err := c.Find(share, 2); addr != 0 || err != api.ErrBadHandle {
		t.Fatalf("Find with 2: %d, %d", addr, err)
	}
	if addr, err := c.Find(share, 1); addr != 512 || err != api.OK {
		t.Fatalf("Find with 1: %d, %d", addr, err)
	}
	if n := c.Revoke(512); n != 2 {
		t.Fatalf("Revoke(512): %d", n)
	}
	if addr, err := c.Find(first, 0); addr != 0 || err != api.ErrBadHandle {
		t.Fatalf("Find of what was revoked: %d, %d", addr, err)
	}
	h, err = c.Grant(512)
	key("Grant(512)", h, err, api.Key{Tenant: 2, Slot: 0, Rights: 7, Serial: 4})
}

// Example 2 of the whole: tenant 0's first handle.
func TestFirstHandleOfTheWhole(t *testing.T) {
	c, _ := fresh(t, 0, 1)
	if h, err := c.Grant(393216); h != 1048688 || err != api.OK {
		t.Fatal(h, err)
	}
}
