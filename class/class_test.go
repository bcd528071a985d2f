package class

import (
	"math"
	"testing"

	"garth/api"
)

// kinds is the chapter's table, written out: what each kind is, row by row.
var kinds = []struct{ unit, per, pages, align int }{
	{16, 32, 1, 16},
	{32, 16, 1, 32},
	{48, 10, 1, 16},
	{64, 8, 1, 64},
	{96, 5, 1, 32},
	{128, 4, 1, 128},
	{192, 2, 1, 64},
	{256, 2, 1, 256},
	{512, 0, 1, 512},
	{1024, 0, 2, 512},
	{1536, 0, 3, 512},
	{2048, 0, 4, 512},
	{2560, 0, 5, 512},
	{3072, 0, 6, 512},
	{3584, 0, 7, 512},
	{4096, 0, 8, 512},
	{4608, 0, 9, 512},
	{5120, 0, 10, 512},
	{5632, 0, 11, 512},
	{6144, 0, 12, 512},
	{6656, 0, 13, 512},
	{7168, 0, 14, 512},
	{7680, 0, 15, 512},
	{8192, 0, 16, 512},
}

// noBytes are numbers of bytes that no kind serves.
var noBytes = []int{
	0, -1, -2, -15, -16, -17, -256, -257, -512, -8192, -8193, math.MinInt32, math.MinInt + 1, math.MinInt,
	8193, 8194, 8703, 8704, 8705, 9000, 16384, 65536, 1 << 31, 1 << 32, 1<<32 + 1, 1<<62 + 16, math.MaxInt - 511, math.MaxInt - 1, math.MaxInt,
}

// noKinds are numbers that are no kind.
var noKinds = []int{
	-1, -2, -7, -8, -9, -16, -24, math.MinInt32, math.MinInt + 1, math.MinInt,
	24, 25, 31, 32, 64, 512, 1 << 31, 1 << 32, 1<<32 + 7, 1 << 55, 1<<55 + 7, 1<<62 + 8, math.MaxInt - 1, math.MaxInt,
}

// P3.1

func TestOfEveryNumberOfBytes(t *testing.T) {
	want := 0
	for n := 1; n <= 8192; n++ {
		for kinds[want].unit < n {
			want++
		}
		if got := Of(n); got != want {
			t.Fatalf("Of(%d): %d, want %d", n, got, want)
		}
	}
}

func TestOfLastOfEachKindAndTheOneBehindIt(t *testing.T) {
	for c, k := range kinds {
		if got := Of(k.unit); got != c {
			t.Errorf("Of(%d): %d, want %d", k.unit, got, c)
		}
		next := c + 1
		if next == len(kinds) {
			next = -1
		}
		if got := Of(k.unit + 1); got != next {
			t.Errorf("Of(%d): %d, want %d", k.unit+1, got, next)
		}
	}
}

func TestOfWhatNoKindServes(t *testing.T) {
	for _, n := range noBytes {
		if got := Of(n); got != -1 {
			t.Errorf("Of(%d): %d", n, got)
		}
	}
}

// P3.2

func TestKindsAreAsTheTableSays(t *testing.T) {
	if len(kinds) != api.Regions {
		t.Fatal(len(kinds))
	}
	for c, k := range kinds {
		if Unit(c) != k.unit || Per(c) != k.per || Pages(c) != k.pages || Align(c) != k.align {
			t.Errorf("kind %d: %d, %d, %d, %d; want %v", c, Unit(c), Per(c), Pages(c), Align(c), k)
		}
	}
}

func TestNumbersThatAreNoKind(t *testing.T) {
	for _, c := range noKinds {
		if Unit(c) != 0 || Per(c) != 0 || Pages(c) != 0 || Align(c) != 0 {
			t.Errorf("kind %d: %d, %d, %d, %d", c, Unit(c), Per(c), Pages(c), Align(c))
		}
	}
}

// TestKindsHangTogether holds a kind's four numbers against what the chapter says they are of each other.
func TestKindsHangTogether(t *testing.T) {
	for c := range api.Regions {
		u := Unit(c)
		if u > Pages(c)*api.PageSize || u%Align(c) != 0 {
			t.Errorf("kind %d: %d bytes, %d pages, aligned by %d", c, u, Pages(c), Align(c))
		}
		if c >= api.Classes {
			continue
		}
		if u*Per(c) > api.PageSize || u*(Per(c)+1) <= api.PageSize {
			t.Errorf("kind %d: a page has %d blocks of %d bytes", c, Per(c), u)
		}
		if a := Align(c); a&(a-1) != 0 || u%(2*a) == 0 {
			t.Errorf("kind %d: %d bytes, aligned by %d", c, u, a)
		}
	}
}

// P3.3

func TestChargeIsTheUnit(t *testing.T) {
	c := 0
	for n := 1; n <= 8192; n++ {
		for kinds[c].unit < n {
			c++
		}
		if got := Charge(n); got != kinds[c].unit {
			t.Fatalf("Charge(%d): %d, want %d", n, got, kinds[c].unit)
		}
	}
}

func TestChargeOfWhatNoKindServes(t *testing.T) {
	for _, n := range noBytes {
		if got := Charge(n); got != 0 {
			t.Errorf("Charge(%d): %d", n, got)
		}
	}
}

// P3.4

func TestMoreBytesAreNeverLess(t *testing.T) {
	for n := 2; n <= api.MaxAlloc; n++ {
		if Of(n) < Of(n-1) || Charge(n) < Charge(n-1) {
			t.Fatalf("%d bytes: kind %d, cost %d; one fewer: %d, %d", n, Of(n), Charge(n), Of(n-1), Charge(n-1))
		}
	}
}

func TestChargeLiesBetweenOnceAndTwice(t *testing.T) {
	for n := 1; n <= api.MaxAlloc; n++ {
		got := Charge(n)
		if got < n || got >= 2*n && got != api.MinBlock {
			t.Fatalf("Charge(%d): %d", n, got)
		}
	}
}

// The chapter's examples.

func TestExamples(t *testing.T) {
	calls := []struct {
		name string
		call func(int) int
		rows [][2]int
	}{
		{"Of", Of, [][2]int{{1, 0}, {16, 0}, {17, 1}, {33, 2}, {256, 7}, {257, 8}, {513, 9}, {8192, 23}, {8193, -1}, {0, -1}}},
		{"Charge", Charge, [][2]int{{40, 48}, {600, 1024}}},
		{"Align", Align, [][2]int{{2, 16}, {4, 32}, {6, 64}, {8, 512}}},
	}
	for _, c := range calls {
		for _, r := range c.rows {
			if got := c.call(r[0]); got != r[1] {
				t.Errorf("%s(%d): %d, want %d", c.name, r[0], got, r[1])
			}
		}
	}
}
