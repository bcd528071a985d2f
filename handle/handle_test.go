package handle

import (
	"math"
	"math/big"
	"math/rand"
	"testing"

	"garth/api"
)

// The edges of each part that are right: the least, the greatest, and some between.
var (
	rightTenants = []int{0, 1, 2, 3, 4, 5, 6, 7}
	rightSlots   = []int{0, 1, 2, 63, 64, 127, 128, 255, 256, 1023, 2048, 4094, 4095, 4096, 4097, 4158, 4159}
	rightRights  = []int{1, 2, 3, 4, 5, 6, 7}
	rightSerials = []int{1, 2, 3, 7, 8, 127, 128, 8191, 8192, 1<<20 - 1, 1 << 20, 1<<31 - 1, 1 << 31, 1<<32 - 1, 1 << 32, 1<<32 + 1, 1 << 43, 1<<44 - 2, 1<<44 - 1}
)

// far are numbers that no part may be; the lower bits of many would be a right part.
var far = []int{math.MinInt, math.MinInt + 1, math.MinInt + 2, math.MinInt32, -1 << 44, -1<<44 + 1, -1 << 32, -1<<32 + 1, -4160, -4159, -8, -7, -2, -1, 1 << 44, 1<<44 + 1, 1<<44 + 2, 1 << 45, 1<<45 - 1, 1 << 60, 1<<62 + 1, math.MaxInt - 1, math.MaxInt}

// The ones that each part may not be.
var (
	wrongTenants = append([]int{8, 9, 10, 15, 16, 17, 31, 32, 255, 256, 1 << 32, 1<<32 + 1, 1<<44 - 1}, far...)
	wrongSlots   = append([]int{4160, 4161, 5000, 8190, 8191, 8192, 8193, 1 << 16, 1 << 32, 1<<32 + 1, 1<<44 - 1}, far...)
	wrongRights  = append([]int{0, 8, 9, 10, 15, 16, 17, 128, 255, 256, 1 << 32, 1<<32 + 1, 1<<44 - 1}, far...)
	wrongSerials = append([]int{0}, far...)
)

// isRight says it as the chapter's Words do.
func isRight(k api.Key) bool {
	return 0 <= k.Tenant && k.Tenant <= 7 &&
		0 <= k.Slot && k.Slot <= 4159 &&
		1 <= k.Rights && k.Rights <= 7 &&
		1 <= k.Serial && k.Serial <= 1<<44-1
}

// weigh reckons a right key's bits as the chapter's example does: each part so often as its lowest bit says.
func weigh(k api.Key) uint64 {
	sum := big.NewInt(int64(k.Tenant))
	for _, part := range []struct{ n, weight int64 }{{int64(k.Rights), 16}, {int64(k.Slot), 128}, {int64(k.Serial), 1 << 20}} {
		sum.Add(sum, new(big.Int).Mul(big.NewInt(part.n), big.NewInt(part.weight)))
	}
	if !sum.IsUint64() {
		panic("a right key's bits are above 64")
	}
	return sum.Uint64()
}

// divide takes bits apart by division: the key that they would be, right or not.
func divide(h uint64) api.Key {
	return api.Key{
		Tenant: int(h % 16),
		Rights: int(h / 16 % 8),
		Slot:   int(h / 128 % 8192),
		Serial: int(h / (1 << 20)),
	}
}

func accepts(t *testing.T, k api.Key) {
	t.Helper()
	if err := Check(k); err != api.OK {
		t.Fatalf("Check(%+v): %d", k, err)
	}
	h, err := Pack(k)
	if h != weigh(k) || err != api.OK {
		t.Fatalf("Pack(%+v): %#x, %d, want %#x", k, h, err, weigh(k))
	}
	if back, err := Unpack(h); back != k || err != api.OK {
		t.Fatalf("Unpack(%#x): %+v, %d, want %+v", h, back, err, k)
	}
}

func refuses(t *testing.T, k api.Key) {
	t.Helper()
	if err := Check(k); err != api.ErrArg {
		t.Fatalf("Check(%+v): %d", k, err)
	}
	if h, err := Pack(k); h != 0 || err != api.ErrArg {
		t.Fatalf("Pack(%+v): %#x, %d", k, h, err)
	}
}

// unpacks holds Unpack of any bits against division, and packs what it gives again.
func unpacks(t *testing.T, h uint64) {
	t.Helper()
	k, err := Unpack(h)
	want := divide(h)
	if !isRight(want) {
		if k != (api.Key{}) || err != api.ErrBadHandle {
			t.Fatalf("Unpack(%#x): %+v, %d, though it would be %+v", h, k, err, want)
		}
		return
	}
	if k != want || err != api.OK {
		t.Fatalf("Unpack(%#x): %+v, %d, want %+v", h, k, err, want)
	}
	if again, err := Pack(k); again != h || err != api.OK {
		t.Fatalf("Pack(%+v): %#x, %d, want %#x", k, again, err, h)
	}
}

// everyKey hands on each key made of these parts.
func everyKey(tenants, slots, rights, serials []int, tell func(api.Key)) {
	for _, a := range tenants {
		for _, b := range slots {
			for _, c := range rights {
				for _, d := range serials {
					tell(api.Key{Tenant: a, Slot: b, Rights: c, Serial: d})
				}
			}
		}
	}
}

func everyRightKey(tell func(api.Key)) {
	everyKey(rightTenants, rightSlots, rightRights, rightSerials, tell)
}

// P9.1

func TestRightKeys(t *testing.T) {
	everyRightKey(func(k api.Key) { accepts(t, k) })
}

func TestEveryTenantSlotAndRights(t *testing.T) {
	for tenant := range 8 {
		for slot := range 4160 {
			for rights := 1; rights <= 7; rights++ {
				accepts(t, api.Key{Tenant: tenant, Slot: slot, Rights: rights, Serial: 1})
				accepts(t, api.Key{Tenant: tenant, Slot: slot, Rights: rights, Serial: 1<<44 - 1})
			}
		}
	}
}

func TestOnePartBesideItsEdges(t *testing.T) {
	base := api.Key{Tenant: 3, Slot: 77, Rights: 5, Serial: 12345}
	for _, c := range []struct {
		what        string
		least, most int
		part        func(*api.Key) *int
	}{
		{"tenant", 0, 7, func(k *api.Key) *int { return &k.Tenant }},
		{"slot", 0, 4159, func(k *api.Key) *int { return &k.Slot }},
		{"rights", 1, 7, func(k *api.Key) *int { return &k.Rights }},
		{"serial", 1, 1<<44 - 1, func(k *api.Key) *int { return &k.Serial }},
	} {
		t.Run(c.what, func(t *testing.T) {
			k := base
			for _, n := range []int{c.least, c.least + 1, c.most - 1, c.most} {
				*c.part(&k) = n
				accepts(t, k)
			}
			for _, n := range []int{c.least - 1, c.least - 2, c.most + 1, c.most + 2, math.MinInt, math.MaxInt} {
				*c.part(&k) = n
				refuses(t, k)
			}
		})
	}
}

func TestOnePartWrong(t *testing.T) {
	tell := func(k api.Key) { refuses(t, k) }
	tenants, slots, rights, serials := []int{0, 3, 7}, []int{0, 77, 4095, 4096, 4159}, []int{1, 4, 7}, []int{1, 12345, 1<<44 - 1}
	everyKey(wrongTenants, slots, rights, serials, tell)
	everyKey(tenants, wrongSlots, rights, serials, tell)
	everyKey(tenants, slots, wrongRights, serials, tell)
	everyKey(tenants, slots, rights, wrongSerials, tell)
}

// Each choice of parts that are wrong at once, all others right.
func TestSeveralPartsWrong(t *testing.T) {
	for wrong := 1; wrong < 16; wrong++ {
		tenants, slots, rights, serials := []int{0, 7}, []int{0, 4159}, []int{1, 7}, []int{1, 1<<44 - 1}
		if wrong&1 != 0 {
			tenants = wrongTenants
		}
		if wrong&2 != 0 {
			slots = wrongSlots
		}
		if wrong&4 != 0 {
			rights = wrongRights
		}
		if wrong&8 != 0 {
			serials = wrongSerials
		}
		everyKey(tenants, slots, rights, serials, func(k api.Key) { refuses(t, k) })
	}
}

// Parts too great or below 0 that, packed without a look, would add up to bits of a right key.
func TestWrongKeysWhoseBitsWouldBeRight(t *testing.T) {
	for _, k := range []api.Key{
		{Tenant: 16 + 2, Slot: 1, Rights: 6, Serial: 1},
		{Tenant: 2 + 7*16, Slot: 1, Rights: 0, Serial: 1},
		{Tenant: 2, Slot: 0, Rights: 8 + 7, Serial: 1},
		{Tenant: 2, Slot: 8192 + 1, Rights: 7, Serial: 0},
		{Tenant: 2, Slot: 1, Rights: 7, Serial: 1<<44 + 1},
		{Tenant: 1048818, Slot: 0, Rights: 0, Serial: 0},
		{Tenant: 2 - 16, Slot: 2, Rights: 0, Serial: 1},
		{Tenant: 2, Slot: 2, Rights: 7 - 8, Serial: 1},
		{Tenant: 2, Slot: 1 - 8192, Rights: 7, Serial: 2},
		{Tenant: 2, Slot: 1, Rights: 7, Serial: 1 - 1<<44},
		{Tenant: 2, Slot: 1, Rights: 7, Serial: math.MinInt + 1},
	} {
		refuses(t, k)
	}
}

func TestZeroKey(t *testing.T) {
	refuses(t, api.Key{})
}

func TestNoBitsAndAllBits(t *testing.T) {
	for _, h := range []uint64{0, math.MaxUint64} {
		if k, err := Unpack(h); k != (api.Key{}) || err != api.ErrBadHandle {
			t.Errorf("Unpack(%#x): %+v, %d", h, k, err)
		}
	}
}

func TestSingleBits(t *testing.T) {
	for at := range 64 {
		unpacks(t, 1<<at)
		unpacks(t, 1<<at-1)
		unpacks(t, ^uint64(1<<at))
	}
}

// The three parts below the serial, in all their bits: right ones and none.
func TestEveryLowerBits(t *testing.T) {
	for low := range uint64(1 << 20) {
		for _, serial := range []uint64{0, 1, 1<<44 - 1} {
			unpacks(t, serial<<20|low)
		}
	}
}

func TestBitsWithOnePartThatMayNotBe(t *testing.T) {
	refused := func(h uint64) {
		if k, err := Unpack(h); k != (api.Key{}) || err != api.ErrBadHandle {
			t.Fatalf("Unpack(%#x): %+v, %d", h, k, err)
		}
	}
	everyRightKey(func(k api.Key) {
		h := weigh(k)
		for tenant := uint64(8); tenant <= 15; tenant++ {
			refused(h&^15 | tenant)
		}
		for _, slot := range []uint64{4160, 4161, 4223, 4224, 6000, 8190, 8191} {
			refused(h&^(8191<<7) | slot<<7)
		}
		refused(h &^ (7 << 4))
		refused(h & (1<<20 - 1))
	})
}

func TestEveryTenantAndSlotThatMayNotBe(t *testing.T) {
	for slot := uint64(4160); slot <= 8191; slot++ {
		for tenant := range uint64(16) {
			for rights := range uint64(8) {
				h := 5<<20 | slot<<7 | rights<<4 | tenant
				if k, err := Unpack(h); k != (api.Key{}) || err != api.ErrBadHandle {
					t.Fatalf("Unpack(%#x): %+v, %d", h, k, err)
				}
			}
		}
	}
}

// P9.2

func TestEachBitTurnedByItself(t *testing.T) {
	everyRightKey(func(k api.Key) {
		h := weigh(k)
		for at := range 64 {
			turned := h ^ 1<<at
			unpacks(t, turned)
			if other, _ := Unpack(turned); other == k {
				t.Fatalf("%#x and %#x are both %+v", h, turned, k)
			}
		}
	})
}

func TestNoTwoKeysHaveTheSameBits(t *testing.T) {
	of := map[uint64]api.Key{}
	tell := func(k api.Key) {
		h, err := Pack(k)
		if err != api.OK {
			t.Fatalf("Pack(%+v): %d", k, err)
		}
		if other, there := of[h]; there && other != k {
			t.Fatalf("%+v and %+v are both %#x", k, other, h)
		}
		of[h] = k
	}
	everyRightKey(tell)
	for slot := range 4160 {
		everyKey([]int{0, 7}, []int{slot}, []int{1, 7}, []int{1, 1<<44 - 1}, tell)
	}
	for h, k := range of {
		if back, err := Unpack(h); back != k || err != api.OK {
			t.Fatalf("Unpack(%#x): %+v, %d, want %+v", h, back, err, k)
		}
	}
}

func TestManyKeysAndBits(t *testing.T) {
	r := rand.New(rand.NewSource(9))
	for range 1 << 18 {
		accepts(t, api.Key{Tenant: r.Intn(8), Slot: r.Intn(4160), Rights: 1 + r.Intn(7), Serial: 1 + r.Intn(1<<44-1)})
		unpacks(t, r.Uint64())
		// Serials of few bits too.
		unpacks(t, r.Uint64()>>r.Intn(64))
		k := api.Key{Tenant: r.Intn(12) - 2, Slot: r.Intn(6000) - 500, Rights: r.Intn(12) - 2, Serial: r.Intn(1<<45) - 1<<43}
		if isRight(k) {
			accepts(t, k)
		} else {
			refuses(t, k)
		}
	}
}

// The chapter's examples.

func TestExamples(t *testing.T) {
	k := api.Key{Tenant: 2, Slot: 1, Rights: 7, Serial: 1}
	if h, err := Pack(k); h != 1048818 || err != api.OK {
		t.Error(h, err)
	}
	if back, err := Unpack(1048818); back != k || err != api.OK {
		t.Error(back, err)
	}
	for _, h := range []uint64{0, 1048818 - 1<<20} {
		if back, err := Unpack(h); back != (api.Key{}) || err != api.ErrBadHandle {
			t.Errorf("Unpack(%d): %+v, %d", h, back, err)
		}
	}
	// The second of the examples of the whole: tenant 0's first handle.
	if h, err := Pack(api.Key{Tenant: 0, Slot: 0, Rights: 7, Serial: 1}); h != 1048688 || err != api.OK {
		t.Error(h, err)
	}
}
