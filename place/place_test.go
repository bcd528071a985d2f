package place

import (
	"math"
	"math/rand"
	"testing"

	"garth/api"
	"garth/class"
)

// The window, written out by the chapter's numbers.
const (
	windowBegin = 131072
	windowEnd   = 25 * 131072
	regionBytes = 131072
)

// kinds is what the chapters say of each kind, written out: a block's bytes, how many begin in a slot, a slot's bytes, and how many slots there are.
var kinds = []struct{ unit, blocks, bytes, slots int }{
	{16, 32, 512, 256},
	{32, 16, 512, 256},
	{48, 10, 512, 256},
	{64, 8, 512, 256},
	{96, 5, 512, 256},
	{128, 4, 512, 256},
	{192, 2, 512, 256},
	{256, 2, 512, 256},
	{512, 1, 512, 256},
	{1024, 1, 1024, 128},
	{1536, 1, 1536, 85},
	{2048, 1, 2048, 64},
	{2560, 1, 2560, 51},
	{3072, 1, 3072, 42},
	{3584, 1, 3584, 36},
	{4096, 1, 4096, 32},
	{4608, 1, 4608, 28},
	{5120, 1, 5120, 25},
	{5632, 1, 5632, 23},
	{6144, 1, 6144, 21},
	{6656, 1, 6656, 19},
	{7168, 1, 7168, 18},
	{7680, 1, 7680, 17},
	{8192, 1, 8192, 16},
}

// noKinds are numbers that are no kind; the lower bits of some are one's, or their product with a region's bytes is too great for an int and comes round.
var noKinds = []int{
	-1, -2, -7, -8, -23, -24, -25, math.MinInt32, -1 << 32, math.MinInt + 1, math.MinInt + 8, math.MinInt,
	24, 25, 26, 32, 48, 256, 1 << 31, 1 << 32, 1<<32 + 8, 1 << 46, 1<<46 - 1, 1 << 47, 1<<47 + 8, 1 << 62, math.MaxInt - 1, math.MaxInt,
}

// noNumbers are below 0 or above every slot and every block's number; the products of some with their bytes come round to small ones.
var noNumbers = []int{
	-1, -2, -16, -32, -256, -512, math.MinInt32, -1 << 32, math.MinInt + 1, math.MinInt,
	257, 512, 1 << 16, 1 << 31, 1 << 32, 1<<32 + 1, 1 << 50, 1 << 54, 1 << 55, 1<<55 + 1, 1 << 56, 1 << 58, 1 << 60, 1<<60 + 1, 1 << 62, math.MaxInt - 1, math.MaxInt,
}

// outside are addresses that aren't in the window; the lower bits of some are one's that is.
var outside = []int{
	0, 1, 15, 16, 511, 512, 513, 65536, 131056, 131070, 131071, -1, -16, -512, -131072, -131073, -262144, -25 * 131072, -25*131072 - 1,
	windowEnd, windowEnd + 1, windowEnd + 16, windowEnd + 512, 26 * 131072, 1 << 23, 1<<31 + 131072, 1 << 32, 1<<32 + 131072, 1<<32 + 131088, 1<<40 + 131072,
	-1<<32 + 131072, math.MinInt32, math.MinInt, math.MinInt + 1, math.MinInt + 131072, math.MaxInt32, 1 << 62, 1<<62 + 131072, math.MaxInt - 131072, math.MaxInt - 1, math.MaxInt,
}

// block is what Of is asked for.
type block struct{ kind, slot, k int }

// blocks are all that there are, by the address at which each begins, reckoned from the table above alone.
func blocks() map[int]block {
	all := map[int]block{}
	at := windowBegin
	for kind, row := range kinds {
		for slot := range row.slots {
			for k := range row.blocks {
				all[at+slot*row.bytes+k*row.unit] = block{kind, slot, k}
			}
		}
		at += regionBytes
	}
	return all
}

func isAddress(t *testing.T, b block, want int) {
	t.Helper()
	if got, err := Of(b.kind, b.slot, b.k); got != want || err != api.OK {
		t.Fatalf("Of(%d, %d, %d): %d, %d; want %d", b.kind, b.slot, b.k, got, err, want)
	}
}

func isNoBlock(t *testing.T, kind, slot, k int) {
	t.Helper()
	if got, err := Of(kind, slot, k); got != 0 || err != api.ErrArg {
		t.Fatalf("Of(%d, %d, %d): %d, %d", kind, slot, k, got, err)
	}
}

func isBlock(t *testing.T, addr int, want block) {
	t.Helper()
	if kind, slot, k, err := Find(addr); (block{kind, slot, k}) != want || err != api.OK {
		t.Fatalf("Find(%d): %d, %d, %d, %d; want %v", addr, kind, slot, k, err, want)
	}
}

func isNoBeginning(t *testing.T, addr int) {
	t.Helper()
	if kind, slot, k, err := Find(addr); kind != 0 || slot != 0 || k != 0 || err != api.ErrRange {
		t.Fatalf("Find(%d): %d, %d, %d, %d", addr, kind, slot, k, err)
	}
}

func isPlace(t *testing.T, at complex128, want int) {
	t.Helper()
	if got, err := Addr(at); got != want || err != api.OK {
		t.Fatalf("Addr(%v): %d, %d; want %d", at, got, err, want)
	}
}

func isNoPlace(t *testing.T, at complex128) {
	t.Helper()
	if got, err := Addr(at); got != 0 || err != api.ErrRange {
		t.Fatalf("Addr(%v): %d, %d", at, got, err)
	}
}

// P14.1

func TestSlotsOfEachKind(t *testing.T) {
	if len(kinds) != api.Regions {
		t.Fatal(len(kinds))
	}
	for kind, row := range kinds {
		if got := Slots(kind); got != row.slots {
			t.Errorf("Slots(%d): %d, want %d", kind, got, row.slots)
		}
	}
}

func TestSlotsOfNoKind(t *testing.T) {
	for _, kind := range noKinds {
		if got := Slots(kind); got != 0 {
			t.Errorf("Slots(%d): %d", kind, got)
		}
	}
}

// TestSlotsAreAsManyAsFindRoom: one more would end behind the region.
func TestSlotsAreAsManyAsFindRoom(t *testing.T) {
	for kind, row := range kinds {
		n := Slots(kind)
		if n*row.bytes > regionBytes || (n+1)*row.bytes <= regionBytes {
			t.Errorf("kind %d: %d slots of %d bytes", kind, n, row.bytes)
		}
	}
}

func TestEveryBlockThereAndBack(t *testing.T) {
	all := blocks()
	many := 0
	for _, row := range kinds {
		many += row.slots * row.blocks
	}
	if len(all) != many {
		t.Fatalf("%d blocks, %d addresses", many, len(all))
	}
	for addr, b := range all {
		isAddress(t, b, addr)
		isBlock(t, addr, b)
	}
}

func TestFindOfEveryAddressOfTheWindow(t *testing.T) {
	all := blocks()
	for addr := windowBegin - 2048; addr < windowEnd+2048; addr++ {
		if b, there := all[addr]; there {
			isBlock(t, addr, b)
		} else {
			isNoBeginning(t, addr)
		}
	}
}

func TestFindOutsideTheWindow(t *testing.T) {
	for _, addr := range outside {
		isNoBeginning(t, addr)
	}
}

// TestFindWhereNoRunFindsRoom asks behind a region's last run, where one more would begin, and at each page there.
func TestFindWhereNoRunFindsRoom(t *testing.T) {
	seen := 0
	for kind := api.Classes; kind < api.Regions; kind++ {
		row := kinds[kind]
		region := windowBegin + kind*regionBytes
		for addr := region + row.slots*row.bytes; addr < region+regionBytes; addr += 512 {
			isNoBeginning(t, addr)
			isNoBeginning(t, addr+1)
			seen++
		}
		isNoBlock(t, kind, row.slots, 0)
	}
	// 256 modulo 3, 5, 6, 7, 9 to 15: the pages that no run has.
	if want := 1 + 1 + 4 + 4 + 4 + 6 + 3 + 4 + 9 + 4 + 1; seen != want {
		t.Fatalf("%d pages, want %d", seen, want)
	}
}

// TestFindWhereNoSmallBlockFindsRoom asks behind the last block of a page whose kind doesn't fill it, where one more would begin.
func TestFindWhereNoSmallBlockFindsRoom(t *testing.T) {
	for _, kind := range []int{2, 4, 6} {
		row := kinds[kind]
		for slot := range row.slots {
			page := windowBegin + kind*regionBytes + slot*512
			isBlock(t, page+(row.blocks-1)*row.unit, block{kind, slot, row.blocks - 1})
			isNoBeginning(t, page+row.blocks*row.unit)
			isNoBeginning(t, page+511)
		}
	}
}

func TestOfFirstAndLastOfEachKind(t *testing.T) {
	for kind, row := range kinds {
		region := (kind + 1) * regionBytes
		last := (row.slots - 1) * row.bytes
		isAddress(t, block{kind, 0, 0}, region)
		isAddress(t, block{kind, row.slots - 1, 0}, region+last)
		isAddress(t, block{kind, 0, row.blocks - 1}, region+(row.blocks-1)*row.unit)
		isAddress(t, block{kind, row.slots - 1, row.blocks - 1}, region+last+(row.blocks-1)*row.unit)
	}
}

func TestOfNoSuchKind(t *testing.T) {
	for _, kind := range noKinds {
		for _, x := range []int{0, 1, 15, 255, -1, math.MinInt, math.MaxInt} {
			isNoBlock(t, kind, 0, x)
			isNoBlock(t, kind, x, 0)
			isNoBlock(t, kind, x, x)
		}
	}
}

func TestOfNoSuchSlot(t *testing.T) {
	for kind, row := range kinds {
		for _, k := range []int{0, row.blocks - 1, row.blocks, -1} {
			isNoBlock(t, kind, -1, k)
			isNoBlock(t, kind, row.slots, k)
			isNoBlock(t, kind, row.slots+1, k)
			for _, slot := range noNumbers {
				isNoBlock(t, kind, slot, k)
			}
		}
		if row.slots < 256 {
			isNoBlock(t, kind, 255, 0)
			isNoBlock(t, kind, 256, 0)
		}
	}
}

func TestOfNoSuchNumber(t *testing.T) {
	for kind, row := range kinds {
		for _, slot := range []int{0, 1, row.slots - 1, row.slots, -1} {
			isNoBlock(t, kind, slot, -1)
			isNoBlock(t, kind, slot, row.blocks)
			isNoBlock(t, kind, slot, row.blocks+1)
			isNoBlock(t, kind, slot, 32)
			for _, k := range noNumbers {
				isNoBlock(t, kind, slot, k)
			}
		}
	}
}

// TestOfEveryTripleNearby asks beyond the bounds on all sides at once: there is an address just where the table has the block.
func TestOfEveryTripleNearby(t *testing.T) {
	for kind := -2; kind <= len(kinds)+1; kind++ {
		for slot := -2; slot <= 258; slot++ {
			for k := -2; k <= 34; k++ {
				there := kind >= 0 && kind < len(kinds) && slot >= 0 && slot < kinds[kind].slots && k >= 0 && k < kinds[kind].blocks
				if !there {
					isNoBlock(t, kind, slot, k)
					continue
				}
				row := kinds[kind]
				isAddress(t, block{kind, slot, k}, (kind+1)*regionBytes+slot*row.bytes+k*row.unit)
			}
		}
	}
}

func TestOfGreatestAndLeastInts(t *testing.T) {
	ints := []int{math.MinInt, math.MinInt + 1, -1, 0, 1, math.MaxInt - 1, math.MaxInt}
	for _, kind := range ints {
		for _, slot := range ints {
			for _, k := range ints {
				small := func(x int) bool { return x == 0 || x == 1 }
				if small(kind) && small(slot) && small(k) {
					isAddress(t, block{kind, slot, k}, (kind+1)*131072+slot*512+k*16*(kind+1))
				} else {
					isNoBlock(t, kind, slot, k)
				}
			}
		}
	}
}

// P14.2

func TestAtAndAddrOverTheWholeWindow(t *testing.T) {
	page, behind := 256, 0
	for addr := windowBegin; addr < windowEnd; addr++ {
		want := complex(float64(page), float64(behind))
		if got, err := At(addr); got != want || err != api.OK {
			t.Fatalf("At(%d): %v, %d; want %v", addr, got, err, want)
		}
		isPlace(t, want, addr)
		if behind++; behind == 512 {
			page, behind = page+1, 0
		}
	}
	if page != 6400 || behind != 0 {
		t.Fatal(page, behind)
	}
}

func TestAtOutsideTheWindow(t *testing.T) {
	for _, addr := range outside {
		if got, err := At(addr); got != 0 || err != api.ErrRange {
			t.Errorf("At(%d): %v, %d", addr, got, err)
		}
	}
}

func TestAtTheWindowsEnds(t *testing.T) {
	for _, c := range []struct {
		addr int
		want complex128
		err  api.Errno
	}{
		{windowBegin - 1, 0, api.ErrRange},
		{windowBegin, complex(256, 0), api.OK},
		{windowBegin + 1, complex(256, 1), api.OK},
		{windowEnd - 2, complex(6399, 510), api.OK},
		{windowEnd - 1, complex(6399, 511), api.OK},
		{windowEnd, 0, api.ErrRange},
		{windowEnd + 1, 0, api.ErrRange},
	} {
		if got, err := At(c.addr); got != c.want || err != c.err {
			t.Errorf("At(%d): %v, %d", c.addr, got, err)
		}
	}
}

// TestAtHasNoPartBelowZero: a part that is 0 is the 0 that has no sign.
func TestAtHasNoPartBelowZero(t *testing.T) {
	for page := 256; page < 6400; page++ {
		at, err := At(page * 512)
		if err != api.OK || math.Signbit(real(at)) || math.Signbit(imag(at)) {
			t.Fatal(page, at, err)
		}
	}
	if at, _ := At(0); math.Signbit(real(at)) || math.Signbit(imag(at)) {
		t.Fatal(at)
	}
}

// wrongPages are real parts that no place has.
func wrongPages() []float64 {
	return append(noWholeNumbers(),
		255, 254, 1, 0, math.Copysign(0, -1), -1, -256, -6399, 6400, 6401, 6656, 131072, 1<<32, 1<<32+256, 1<<53, 1<<54+256, 1<<55, 1<<62, 1<<63, 1<<64, -1<<63, -1<<64,
		math.Nextafter(256, 0), math.Nextafter(6400, 0), 255.5, 256.5, 257.5, 6399.5, 6399.999)
}

// wrongBehind are imaginary parts that no place has.
func wrongBehind() []float64 {
	return append(noWholeNumbers(),
		-1, -2, -511, -512, 512, 513, 1023, 1024, 131072, 1<<32, 1<<32+32, 1<<53, 1<<62, 1<<63, 1<<64, -1<<63, -1<<64,
		math.Nextafter(0, -1), math.Nextafter(0, 1), math.Nextafter(512, 0), 0.5, 31.5, 32.000001, 510.5, 511.5)
}

// noWholeNumbers are wrong as either part.
func noWholeNumbers() []float64 {
	return []float64{
		math.NaN(), math.Copysign(math.NaN(), -1), math.Inf(1), math.Inf(-1), math.MaxFloat64, -math.MaxFloat64, 1e18, 1e19, -1e19, 1e300, -1e300,
		math.SmallestNonzeroFloat64, -math.SmallestNonzeroFloat64, -0.5, 300.25, math.Nextafter(300, 0), math.Nextafter(300, 301), math.Pi,
	}
}

func TestAddrOfNoPlace(t *testing.T) {
	for _, page := range wrongPages() {
		for _, behind := range []float64{0, 1, 32, 256, 510, 511, math.Copysign(0, -1)} {
			isNoPlace(t, complex(page, behind))
		}
		for _, behind := range wrongBehind() {
			isNoPlace(t, complex(page, behind))
		}
	}
	for _, page := range []float64{256, 257, 300, 511, 512, 6398, 6399} {
		for _, behind := range wrongBehind() {
			isNoPlace(t, complex(page, behind))
		}
	}
}

// TestAddrTakesNoPageForBytes: parts that would come to an address of the window by their sum alone are no place.
func TestAddrTakesNoPageForBytes(t *testing.T) {
	for _, at := range []complex128{
		complex(255, 512), complex(255, 513), complex(254, 1024), complex(0, windowBegin), complex(6400, -1), complex(6400, -512),
		complex(257, -1), complex(257, -512), complex(256, 512), complex(6398, 512), complex(windowBegin, 0), complex(32, 257),
	} {
		isNoPlace(t, at)
	}
}

func TestAddrOfEdges(t *testing.T) {
	isPlace(t, complex(256, 0), windowBegin)
	isPlace(t, complex(256, 1), windowBegin+1)
	isPlace(t, complex(256, 511), windowBegin+511)
	isPlace(t, complex(257, 0), windowBegin+512)
	isPlace(t, complex(6399, 0), windowEnd-512)
	isPlace(t, complex(6399, 511), windowEnd-1)
	isNoPlace(t, complex(255, 511))
	isNoPlace(t, complex(255, 0))
	isNoPlace(t, complex(6400, 0))
	isNoPlace(t, complex(256, -1))
	isNoPlace(t, complex(256, 512))
	isNoPlace(t, 0)
}

// TestZeroBelowIsZero: -0 is the whole number 0, so a place with it is that with 0; of the page it is the page 0, outside the window.
func TestZeroBelowIsZero(t *testing.T) {
	below := math.Copysign(0, -1)
	for page := 256; page < 6400; page++ {
		isPlace(t, complex(float64(page), below), page*512)
	}
	isNoPlace(t, complex(below, 0))
	isNoPlace(t, complex(below, below))
	isNoPlace(t, complex(below, 32))
	isNoPlace(t, complex(255, below))
	isNoPlace(t, complex(6400, below))
}

func TestAddrOfRandomNumbers(t *testing.T) {
	r := rand.New(rand.NewSource(14))
	for range 200000 {
		page, behind := float64(r.Intn(7000))-300, float64(r.Intn(600))-40
		switch r.Intn(6) {
		case 0:
			page += r.Float64()
		case 1:
			behind += r.Float64()
		case 2:
			page = math.Float64frombits(r.Uint64())
		case 3:
			behind = math.Float64frombits(r.Uint64())
		}
		whole := page == math.Floor(page) && behind == math.Floor(behind)
		if whole && page >= 256 && page <= 6399 && behind >= 0 && behind <= 511 {
			isPlace(t, complex(page, behind), int(page)*512+int(behind))
		} else {
			isNoPlace(t, complex(page, behind))
		}
	}
}

func TestWithin(t *testing.T) {
	all := windowEnd - windowBegin
	for _, c := range []struct {
		addr, n int
		want    bool
	}{
		{windowBegin, 0, true},
		{windowBegin, 1, true},
		{windowBegin, all - 1, true},
		{windowBegin, all, true},
		{windowBegin, all + 1, false},
		{windowBegin - 1, 0, false},
		{windowBegin - 1, 1, false},
		{windowBegin - 1, 2, false},
		{windowBegin - 1, all, false},
		{windowBegin - 1, all + 1, false},
		{windowBegin + 1, all - 1, true},
		{windowBegin + 1, all, false},
		{windowEnd - 1, 0, true},
		{windowEnd - 1, 1, true},
		{windowEnd - 1, 2, false},
		{windowEnd, 0, true},
		{windowEnd, 1, false},
		{windowEnd + 1, 0, false},
		{windowEnd + 1, 1, false},
		{2 * 131072, 600, true},
		{0, 0, false},
		{0, windowBegin + 1, false},
		{0, windowEnd, false},
		{-1, 0, false},
		{-131072, 16, false},
	} {
		if got := Within(c.addr, c.n); got != c.want {
			t.Errorf("Within(%d, %d): %v", c.addr, c.n, got)
		}
	}
}

func TestWithinOfFewerThanNoBytes(t *testing.T) {
	for _, addr := range append([]int{windowBegin, windowBegin + 1, 300000, windowEnd - 1, windowEnd, windowEnd + 1}, outside...) {
		for _, n := range []int{-1, -2, -512, -131072, math.MinInt32, math.MinInt + 1, math.MinInt, windowBegin - windowEnd} {
			if Within(addr, n) {
				t.Errorf("Within(%d, %d)", addr, n)
			}
		}
	}
}

// TestWithinOfSumsTooGreat: where a sum or a difference of the two would come round, they still aren't within.
func TestWithinOfSumsTooGreat(t *testing.T) {
	great := []int{math.MaxInt, math.MaxInt - 1, math.MaxInt - windowBegin, math.MaxInt - windowEnd, math.MaxInt - windowEnd + 1, 1 << 62, 1 << 62, 1 << 32, 1 << 31, math.MaxInt32}
	for _, x := range great {
		for _, addr := range []int{windowBegin, windowBegin + 1, windowEnd - 1, windowEnd, windowEnd + 1, math.MaxInt, 1 << 62, math.MinInt, math.MinInt + 1, -1, 0} {
			if Within(addr, x) {
				t.Errorf("Within(%d, %d)", addr, x)
			}
		}
		for _, n := range []int{0, 1, 512, windowBegin, windowEnd, math.MaxInt, math.MinInt} {
			if Within(x, n) || Within(-x, n) || Within(-x-1, n) {
				t.Errorf("Within(%d, %d) or of one below 0", x, n)
			}
		}
	}
}

// TestWithinAsAtSays: bytes are within just when the first and the last of them are in the window.
func TestWithinAsAtSays(t *testing.T) {
	in := func(addr int) bool {
		_, err := At(addr)
		return err == api.OK
	}
	for _, from := range []int{windowBegin, 2 * 131072, windowEnd - 600, windowEnd} {
		for addr := from - 20; addr <= from+20; addr++ {
			for _, n := range []int{1, 2, 16, 512, 580, 600, 620, windowEnd - windowBegin} {
				if got, want := Within(addr, n), in(addr) && in(addr+n-1); got != want {
					t.Errorf("Within(%d, %d): %v", addr, n, got)
				}
			}
		}
	}
}

// P14.3

func TestBlocksLieApartAlignedWithinTheWindow(t *testing.T) {
	had := make([]bool, windowEnd-windowBegin)
	for kind := range api.Regions {
		for slot := range Slots(kind) {
			for k := range kinds[kind].blocks {
				addr, err := Of(kind, slot, k)
				if err != api.OK || addr%class.Align(kind) != 0 || !Within(addr, class.Unit(kind)) {
					t.Fatalf("Of(%d, %d, %d): %d, %d", kind, slot, k, addr, err)
				}
				bytes := had[addr-windowBegin:][:class.Unit(kind)]
				for i, is := range bytes {
					if is {
						t.Fatalf("Of(%d, %d, %d): the byte %d is another one's", kind, slot, k, addr+i)
					}
					bytes[i] = true
				}
			}
		}
	}
}

// TestBlocksLieInPagesOfTheirSlot: a small block in one page, a run at a page's beginning; and none in another kind's region.
func TestBlocksLieInPagesOfTheirSlot(t *testing.T) {
	for addr, b := range blocks() {
		got, err := Of(b.kind, b.slot, b.k)
		if err != api.OK {
			t.Fatal(b, err)
		}
		first, _ := At(got)
		last, err := At(got + kinds[b.kind].unit - 1)
		if err != api.OK || int(real(last)-real(first))+1 != class.Pages(b.kind) || b.kind >= api.Classes && imag(first) != 0 {
			t.Fatalf("%v at %d: %v to %v", b, addr, first, last)
		}
		if (got+kinds[b.kind].unit-1)/regionBytes != b.kind+1 || got/regionBytes != b.kind+1 {
			t.Fatalf("%v at %d: outside its region", b, got)
		}
	}
}

// The chapter's examples.

func TestExamples(t *testing.T) {
	isAddress(t, block{0, 0, 0}, 131072)
	isAddress(t, block{0, 1, 2}, 131616)
	isAddress(t, block{8, 0, 0}, 1179648)
	isBlock(t, 131088, block{0, 0, 1})
	isNoBeginning(t, 131089)
	if at, err := At(131616); at != complex(257, 32) || err != api.OK {
		t.Error(at, err)
	}
	// Addresses that other chapters name: kind 2's region, and the first run of two pages.
	isAddress(t, block{2, 0, 0}, 393216)
	isAddress(t, block{9, 0, 0}, 1310720)
}
