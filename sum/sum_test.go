package sum

import (
	"math"
	"math/big"
	"slices"
	"testing"

	"garth/api"
)

// bound is the greatest number of bytes, and of pages, that a sum may have.
const bound = 1 << 40

// rightParts are numbers that a part of a sum may be: ordinary ones, the bounds and those beside them.
var rightParts = []int{0, 1, 2, 3, 5, 16, 48, 511, 512, 65536, 1<<20 - 1, 1 << 20, 1<<20 + 1, 1<<31 - 1, 1 << 31, 1<<32 + 1, bound/2 - 1, bound / 2, bound/2 + 1, bound - 2, bound - 1, bound}

// wrongInts are numbers that are none.
var wrongInts = []int{
	-1, -2, -512, -bound + 1, -bound, -bound - 1, math.MinInt32, math.MinInt + 1, math.MinInt,
	bound + 1, bound + 2, 2 * bound, 1<<53 - 1, 1 << 53, 1<<53 + 1, 1<<62 + 1, math.MaxInt - 511, math.MaxInt - 1, math.MaxInt,
}

// wrongFloats are floats that no part of a sum may be.
var wrongFloats = []float64{
	-1, -2, -0.5, -512, -bound, -1e300, -math.MaxFloat64, math.Inf(-1), -math.SmallestNonzeroFloat64,
	0.5, 1.5, 511.5, bound - 0.5, math.SmallestNonzeroFloat64, math.Nextafter(0, 1), math.Nextafter(1, 0), math.Nextafter(1, 2), math.Nextafter(bound, 0),
	math.Nextafter(bound, math.Inf(1)), bound + 0.5, bound + 1, 2 * bound, 1 << 53, 1 << 63, 1 << 64, 1e300, math.MaxFloat64, math.Inf(1),
	math.NaN(), math.Copysign(math.NaN(), -1),
}

// someParts are the right ones of which every pair is told.
var someParts = []int{0, 1, 2, 512, 1 << 20, bound / 2, bound - 1, bound}

func sumOf(t *testing.T, bytes, pages int) Sum {
	t.Helper()
	s, err := Of(bytes, pages)
	if err != api.OK {
		t.Fatalf("Of(%d, %d): %d", bytes, pages, err)
	}
	return s
}

// wrongSums are complex numbers that are no right sum: in one part, in the other one, in both.
func wrongSums() []Sum {
	var all []Sum
	for _, x := range wrongFloats {
		for _, n := range []float64{0, 1, 512, bound} {
			all = append(all, Sum(complex(x, n)), Sum(complex(n, x)))
		}
		for _, y := range wrongFloats {
			all = append(all, Sum(complex(x, y)))
		}
	}
	return all
}

func rightSums() []Sum {
	var all []Sum
	for _, b := range someParts {
		for _, p := range someParts {
			all = append(all, Sum(complex(float64(b), float64(p))))
		}
	}
	return all
}

// same tells whether got is what came of the parts, which are reckoned without bounds; what may not be is told by ErrArg and 0.
func same(got Sum, err api.Errno, bytes, pages *big.Int) bool {
	if !mayBe(bytes) || !mayBe(pages) {
		return got == 0 && err == api.ErrArg
	}
	return err == api.OK && got == Sum(complex(float64(bytes.Int64()), float64(pages.Int64())))
}

func mayBe(n *big.Int) bool {
	return n.Sign() >= 0 && n.Cmp(big.NewInt(bound)) <= 0
}

// parts takes a right sum apart by Go's own means.
func parts(s Sum) (bytes, pages *big.Int) {
	return big.NewInt(int64(real(s))), big.NewInt(int64(imag(s)))
}

// P4.1

func TestOfEveryPairOfRightParts(t *testing.T) {
	for _, b := range rightParts {
		for _, p := range rightParts {
			s, err := Of(b, p)
			if s != Sum(complex(float64(b), float64(p))) || err != api.OK {
				t.Fatalf("Of(%d, %d): %v, %d", b, p, s, err)
			}
			if !s.Right() || s.Bytes() != b || s.Pages() != p {
				t.Fatalf("Of(%d, %d): right %v, %d bytes, %d pages", b, p, s.Right(), s.Bytes(), s.Pages())
			}
		}
	}
}

func TestOfWrongParts(t *testing.T) {
	refused := func(b, p int) {
		if s, err := Of(b, p); s != 0 || err != api.ErrArg {
			t.Errorf("Of(%d, %d): %v, %d", b, p, s, err)
		}
	}
	for _, x := range wrongInts {
		for _, n := range rightParts {
			refused(x, n)
			refused(n, x)
		}
		for _, y := range wrongInts {
			refused(x, y)
		}
	}
}

func TestRightBytesPagesOfRightNumbers(t *testing.T) {
	for _, b := range rightParts {
		for _, p := range rightParts {
			s := Sum(complex(float64(b), float64(p)))
			if !s.Right() || s.Bytes() != b || s.Pages() != p {
				t.Fatalf("%v: right %v, %d bytes, %d pages", s, s.Right(), s.Bytes(), s.Pages())
			}
		}
	}
}

func TestRightBytesPagesOfWrongNumbers(t *testing.T) {
	for _, s := range wrongSums() {
		if s.Right() || s.Bytes() != 0 || s.Pages() != 0 {
			t.Errorf("%v: right %v, %d bytes, %d pages", s, s.Right(), s.Bytes(), s.Pages())
		}
	}
}

func TestZeroValueIsRight(t *testing.T) {
	var s Sum
	if !s.Right() || s.Bytes() != 0 || s.Pages() != 0 {
		t.Fatalf("right %v, %d bytes, %d pages", s.Right(), s.Bytes(), s.Pages())
	}
}

func TestZeroBelowIsZero(t *testing.T) {
	below := math.Copysign(0, -1)
	s := Sum(complex(below, below))
	if !s.Right() || s.Bytes() != 0 || s.Pages() != 0 {
		t.Fatalf("right %v, %d bytes, %d pages", s.Right(), s.Bytes(), s.Pages())
	}
	five := sumOf(t, 5, 7)
	if got, err := five.Less(s); got != five || err != api.OK {
		t.Fatal(got, err)
	}
	if !s.Fits(0) || !Sum(0).Fits(s) {
		t.Fatal("0 does not fit 0")
	}
}

// P4.2

func TestPlusAndLessOfRightSums(t *testing.T) {
	for _, s := range rightSums() {
		for _, u := range rightSums() {
			b, p := parts(s)
			c, q := parts(u)
			if got, err := s.Plus(u); !same(got, err, new(big.Int).Add(b, c), new(big.Int).Add(p, q)) {
				t.Errorf("%v plus %v: %v, %d", s, u, got, err)
			}
			if got, err := s.Less(u); !same(got, err, new(big.Int).Sub(b, c), new(big.Int).Sub(p, q)) {
				t.Errorf("%v less %v: %v, %d", s, u, got, err)
			}
		}
	}
}

func TestPlusJustRightAndJustTooGreat(t *testing.T) {
	for _, n := range rightParts {
		s := sumOf(t, n, bound-n)
		rest := sumOf(t, bound-n, n)
		if got, err := s.Plus(rest); got != Sum(complex(bound, bound)) || err != api.OK {
			t.Errorf("%v plus %v: %v, %d", s, rest, got, err)
		}
		for _, more := range []Sum{1, 1i, 1 + 1i} {
			if !(rest + more).Right() {
				continue
			}
			if got, err := s.Plus(rest + more); got != 0 || err != api.ErrArg {
				t.Errorf("%v plus %v: %v, %d", s, rest+more, got, err)
			}
		}
	}
}

func TestLessJustRightAndJustBelow(t *testing.T) {
	for _, n := range rightParts {
		s := sumOf(t, n, bound-n)
		if got, err := s.Less(s); got != 0 || err != api.OK {
			t.Errorf("%v less itself: %v, %d", s, got, err)
		}
		for _, more := range []Sum{1, 1i, 1 + 1i} {
			if !(s + more).Right() {
				continue
			}
			if got, err := s.Less(s + more); got != 0 || err != api.ErrArg {
				t.Errorf("%v less %v: %v, %d", s, s+more, got, err)
			}
		}
	}
}

func TestPlusAndLessOfWrongSums(t *testing.T) {
	refused := func(what string, s, u, got Sum, err api.Errno) {
		if got != 0 || err != api.ErrArg {
			t.Errorf("%v %s %v: %v, %d", s, what, u, got, err)
		}
	}
	for _, w := range wrongSums() {
		for _, u := range []Sum{0, 1, 1i, 512 + 2i, bound + bound*1i, w, -w} {
			got, err := w.Plus(u)
			refused("plus", w, u, got, err)
			got, err = u.Plus(w)
			refused("plus", u, w, got, err)
			got, err = w.Less(u)
			refused("less", w, u, got, err)
			got, err = u.Less(w)
			refused("less", u, w, got, err)
		}
	}
}

// What comes out would be right in each of these: the sums themselves are refused.
func TestWrongSumsWhoseResultWouldBeRight(t *testing.T) {
	for _, c := range []struct{ s, u Sum }{
		{1.5, 0.5}, {1.5i, 0.5i}, {-1, 2}, {2, -1}, {-1i, 2i}, {2i, -1i}, {0.5 + 0.5i, 0.5 + 0.5i},
		{bound + 1, -1}, {-1, bound + 1}, {(bound + 1) * 1i, -1i}, {-1, bound}, {bound, -1},
	} {
		if got, err := c.s.Plus(c.u); got != 0 || err != api.ErrArg {
			t.Errorf("%v plus %v: %v, %d", c.s, c.u, got, err)
		}
	}
	for _, c := range []struct{ s, u Sum }{
		{1.5, 0.5}, {1.5i, 0.5i}, {2, -1}, {2i, -1i}, {-1, -1}, {-1i, -2i}, {0.5 + 0.5i, 0.5 + 0.5i},
		{bound + 1, 1}, {(bound + 1) * 1i, 1i}, {bound + 1, bound + 1}, {0, -bound}, {bound + 1, bound},
	} {
		if got, err := c.s.Less(c.u); got != 0 || err != api.ErrArg {
			t.Errorf("%v less %v: %v, %d", c.s, c.u, got, err)
		}
	}
	for _, c := range []struct {
		s Sum
		n int
	}{
		{0.5, 2}, {0.5i, 2}, {-1, -1}, {-1i, -1}, {-1 - 1i, -2}, {1.5 + 0.5i, 4}, {0.5, 0}, {-1, 0}, {bound + 1, 0}, {-1i, 0}, {(bound + 1) * 1i, 0},
		{0, -1}, {0, bound + 1}, {0, math.MinInt}, {0, math.MaxInt}, {0, math.MinInt + 1}, {0, math.MaxInt - 1},
	} {
		if got, err := c.s.Times(c.n); got != 0 || err != api.ErrArg {
			t.Errorf("%v times %d: %v, %d", c.s, c.n, got, err)
		}
	}
}

func TestTimesOfRightSums(t *testing.T) {
	for _, s := range rightSums() {
		b, p := parts(s)
		for _, n := range rightParts {
			m := big.NewInt(int64(n))
			if got, err := s.Times(n); !same(got, err, new(big.Int).Mul(b, m), new(big.Int).Mul(p, m)) {
				t.Errorf("%v times %d: %v, %d", s, n, got, err)
			}
		}
	}
}

func TestTimesJustRightAndJustTooGreat(t *testing.T) {
	for k := 0; k <= 40; k++ {
		n := 1 << k
		s := sumOf(t, bound/n, bound/n)
		if got, err := s.Times(n); got != Sum(complex(bound, bound)) || err != api.OK {
			t.Errorf("%v times %d: %v, %d", s, n, got, err)
		}
		if got, err := s.Times(n + 1); got != 0 || err != api.ErrArg {
			t.Errorf("%v times %d: %v, %d", s, n+1, got, err)
		}
	}
	// 3 by 366503875925 is one less than 2^40.
	third := sumOf(t, 366503875925, 3)
	if got, err := third.Times(3); got != Sum(complex(bound-1, 9)) || err != api.OK {
		t.Error(got, err)
	}
	if got, err := sumOf(t, 3, 366503875926).Times(3); got != 0 || err != api.ErrArg {
		t.Error(got, err)
	}
	if got, err := sumOf(t, 366503875926, 3).Times(3); got != 0 || err != api.ErrArg {
		t.Error(got, err)
	}
}

func TestTimesOfWrongCounts(t *testing.T) {
	for _, s := range rightSums() {
		for _, n := range wrongInts {
			if got, err := s.Times(n); got != 0 || err != api.ErrArg {
				t.Errorf("%v times %d: %v, %d", s, n, got, err)
			}
		}
	}
}

func TestTimesOfWrongSums(t *testing.T) {
	for _, w := range wrongSums() {
		for _, n := range []int{0, 1, 2, 3, bound, -1, bound + 1, math.MinInt, math.MaxInt} {
			if got, err := w.Times(n); got != 0 || err != api.ErrArg {
				t.Errorf("%v times %d: %v, %d", w, n, got, err)
			}
		}
	}
}

func TestTotalOfFew(t *testing.T) {
	for _, none := range [][]Sum{nil, {}} {
		if got, err := Total(none...); got != 0 || err != api.OK {
			t.Errorf("of none: %v, %d", got, err)
		}
	}
	if got, err := Total(); got != 0 || err != api.OK {
		t.Errorf("of none: %v, %d", got, err)
	}
	for _, s := range rightSums() {
		if got, err := Total(s); got != s || err != api.OK {
			t.Errorf("of %v: %v, %d", s, got, err)
		}
		for _, u := range rightSums() {
			want, wantErr := s.Plus(u)
			if got, err := Total(s, u); got != want || err != wantErr {
				t.Errorf("of %v and %v: %v, %d", s, u, got, err)
			}
		}
	}
}

func TestTotalOfMany(t *testing.T) {
	many := make([]Sum, 1<<16)
	bytes, pages := 0, 0
	for i := range many {
		many[i] = sumOf(t, i, 3*i+1)
		bytes, pages = bytes+i, pages+3*i+1
	}
	if got, err := Total(many...); got.Bytes() != bytes || got.Pages() != pages || err != api.OK {
		t.Fatalf("%v, %d, want %d bytes, %d pages", got, err, bytes, pages)
	}
}

func TestTotalJustRightAndJustTooGreat(t *testing.T) {
	n := 1 << 10
	many := make([]Sum, n)
	for i := range many {
		many[i] = sumOf(t, bound/n, bound/n)
	}
	if got, err := Total(many...); got != Sum(complex(bound, bound)) || err != api.OK {
		t.Fatal(got, err)
	}
	for _, more := range []Sum{1, 1i, 1 + 1i, bound, bound * 1i} {
		for _, rest := range [][]Sum{nil, {0}, {0, 1, 1i}} {
			if got, err := Total(append(append(slices.Clone(many), more), rest...)...); got != 0 || err != api.ErrArg {
				t.Errorf("%v more, then %v: %v, %d", more, rest, got, err)
			}
		}
	}
}

func TestTotalWithAWrongOne(t *testing.T) {
	for _, w := range wrongSums() {
		for at := 0; at < 4; at++ {
			some := []Sum{1 + 1i, 2, 3i, 4 + 4i}
			some[at] = w
			if got, err := Total(some...); got != 0 || err != api.ErrArg {
				t.Errorf("%v: %v, %d", some, got, err)
			}
		}
		if got, err := Total(w); got != 0 || err != api.ErrArg {
			t.Errorf("%v: %v, %d", w, got, err)
		}
	}
	// What comes after a refusal, or makes up for it, does not mend it.
	for _, some := range [][]Sum{{-1, 1}, {1, -1}, {0.5, 0.5}, {bound, 1, -1}, {bound, 1, 0}, {-1, 5, 5}} {
		if got, err := Total(some...); got != 0 || err != api.ErrArg {
			t.Errorf("%v: %v, %d", some, got, err)
		}
	}
}

func TestTotalLeavesItsPartsAsTheyAre(t *testing.T) {
	room := []Sum{1, 2i, 3 + 3i, 7, 8}
	before := slices.Clone(room)
	Total(room[:3]...)
	Total(room[:0]...)
	if !slices.Equal(room, before) {
		t.Fatal(room)
	}
}

// P4.3

func TestFitsOfRightSums(t *testing.T) {
	for _, s := range rightSums() {
		for _, u := range rightSums() {
			b, p := parts(s)
			c, q := parts(u)
			if want := b.Cmp(c) <= 0 && p.Cmp(q) <= 0; s.Fits(u) != want {
				t.Errorf("%v fits %v: %v", s, u, !want)
			}
		}
	}
}

func TestFitsBesideEachOther(t *testing.T) {
	for _, n := range []int{0, 1, 5, 512, bound - 2} {
		s := sumOf(t, n+1, n+1)
		for _, c := range []struct {
			bytes, pages int
			want         bool
		}{
			{n, n, false}, {n, n + 1, false}, {n, n + 2, false},
			{n + 1, n, false}, {n + 1, n + 1, true}, {n + 1, n + 2, true},
			{n + 2, n, false}, {n + 2, n + 1, true}, {n + 2, n + 2, true},
		} {
			if u := sumOf(t, c.bytes, c.pages); s.Fits(u) != c.want {
				t.Errorf("%v fits %v: %v", s, u, !c.want)
			}
		}
	}
}

func TestFitsOfWrongSums(t *testing.T) {
	for _, w := range wrongSums() {
		for _, u := range []Sum{0, 1, 1i, 512 + 2i, bound + bound*1i, w} {
			if w.Fits(u) || u.Fits(w) {
				t.Errorf("%v and %v: %v, %v", w, u, w.Fits(u), u.Fits(w))
			}
		}
	}
}

// P4.4

// everyOrder hands each order of the list to tell.
func everyOrder(list []Sum, tell func([]Sum)) {
	var from func(at int)
	from = func(at int) {
		if at == len(list) {
			tell(list)
			return
		}
		for i := at; i < len(list); i++ {
			list[at], list[i] = list[i], list[at]
			from(at + 1)
			list[at], list[i] = list[i], list[at]
		}
	}
	from(0)
}

func TestAddedInWhateverOrder(t *testing.T) {
	for _, c := range []struct {
		list []Sum
		want Sum
	}{
		{[]Sum{48 + 1i, 16, 512 + 1i, 3i, 1}, 577 + 5i},
		{[]Sum{bound - 10, 1 + bound*1i, 2, 3, 4}, bound + bound*1i},
		{[]Sum{bound / 2, bound / 4, bound / 8, bound/8 - 1, 1i}, bound - 1 + 1i},
		{[]Sum{1, 1, 1, 0, 0}, 3},
	} {
		everyOrder(slices.Clone(c.list), func(order []Sum) {
			if got, err := Total(order...); got != c.want || err != api.OK {
				t.Errorf("%v: %v, %d, want %v", order, got, err, c.want)
			}
		})
	}
}

func TestAddedByTwosAndThrees(t *testing.T) {
	some := []Sum{0, 1, 1i, 48 + 1i, 512 + 16i, 1<<20 + 3i, bound / 4, bound / 4 * 1i, bound/2 - 1 + 7i}
	for _, a := range some {
		for _, b := range some {
			ab, err := a.Plus(b)
			ba, back := b.Plus(a)
			if ab != ba || err != back {
				t.Errorf("%v and %v: %v, %d and %v, %d", a, b, ab, err, ba, back)
			}
			if err != api.OK {
				continue
			}
			for _, c := range some {
				left, err := ab.Plus(c)
				bc, within := b.Plus(c)
				right, back := a.Plus(bc)
				if err == api.OK && within == api.OK && (back != api.OK || left != right) {
					t.Errorf("%v, %v, %v: %v and %v", a, b, c, left, right)
				}
			}
		}
	}
}

func TestAddedAndTakenAwayAgain(t *testing.T) {
	for _, s := range rightSums() {
		for _, u := range rightSums() {
			if both, err := s.Plus(u); err == api.OK {
				if got, err := both.Less(u); got != s || err != api.OK {
					t.Errorf("%v plus and less %v: %v, %d", s, u, got, err)
				}
			}
			if rest, err := s.Less(u); err == api.OK {
				if got, err := rest.Plus(u); got != s || err != api.OK {
					t.Errorf("%v less and plus %v: %v, %d", s, u, got, err)
				}
			}
		}
	}
}

func TestTimesIsPlusSoOften(t *testing.T) {
	for _, s := range []Sum{0, 1, 1i, 48 + 1i, 512 + 16i, bound/8 + 1, bound / 8 * 1i} {
		for n := 0; n <= 10; n++ {
			want, wantErr := Total(slices.Repeat([]Sum{s}, n)...)
			if got, err := s.Times(n); got != want || err != wantErr {
				t.Errorf("%v times %d: %v, %d, want %v, %d", s, n, got, err, want, wantErr)
			}
		}
	}
}

func TestFitsIsThatItCanBeTakenAway(t *testing.T) {
	for _, s := range rightSums() {
		for _, u := range rightSums() {
			if _, err := u.Less(s); s.Fits(u) != (err == api.OK) {
				t.Errorf("%v fits %v: %v, less: %d", s, u, s.Fits(u), err)
			}
		}
	}
}

// The chapter's examples.

func TestExamples(t *testing.T) {
	if got, err := sumOf(t, 48, 1).Plus(sumOf(t, 16, 0)); got.Bytes() != 64 || got.Pages() != 1 || err != api.OK {
		t.Error(got, err)
	}
	if got, err := sumOf(t, 5, 0).Less(sumOf(t, 6, 0)); got != 0 || err != api.ErrArg {
		t.Error(got, err)
	}
	if got, err := sumOf(t, 512, 1).Times(3); got.Bytes() != 1536 || got.Pages() != 3 || err != api.OK {
		t.Error(got, err)
	}
	if !sumOf(t, 5, 2).Fits(sumOf(t, 5, 3)) {
		t.Error("Of(5, 2) doesn't fit Of(5, 3)")
	}
	if sumOf(t, 5, 3).Fits(sumOf(t, 6, 2)) {
		t.Error("Of(5, 3) fits Of(6, 2)")
	}
}
