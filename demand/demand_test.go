package demand

import (
	"math"
	"math/rand"
	"testing"

	"garth/api"
	"garth/sum"
)

// small is the chapter's table of the small kinds, written out: a block's bytes, and how many of them a page has.
var small = []struct{ unit, per int }{{16, 32}, {32, 16}, {48, 10}, {64, 8}, {96, 5}, {128, 4}, {192, 2}, {256, 2}}

// noQuotas are numbers that no quota may be.
var noQuotas = []int{
	0, -1, -2, -15, -16, -17, -511, -512, -513, -1024, -65535, -65536, -65537, math.MinInt32, -1 << 40, math.MinInt + 1, math.MinInt,
	65537, 65538, 65552, 66048, 131072, 1<<31 - 1, 1 << 31, 1 << 32, 1<<32 + 1, 1<<32 + 512, 1 << 40, 1<<40 + 512, 1<<53 + 1, 1<<62 + 512, math.MaxInt - 511, math.MaxInt - 1, math.MaxInt,
}

// notSmall are numbers that are no small kind: those beside them, the runs, and ones far away.
var notSmall = []int{
	-1, -2, -7, -8, -9, -24, math.MinInt32, math.MinInt + 1, math.MinInt,
	8, 9, 10, 15, 16, 22, 23, 24, 25, 31, 32, 512, 1 << 31, 1 << 32, 1<<32 + 7, 1 << 61, 1<<62 + 1, math.MaxInt - 1, math.MaxInt,
}

// someQuotas are quotas that may be: ordinary ones, and those at which something changes, with the ones beside them.
func someQuotas() []int {
	all := []int{1, 2, 15, 40, 100, 1000, 3000, 12345, 65000, 65535, 65536}
	for _, k := range small {
		for _, of := range []int{k.unit, k.unit * k.per, 512} {
			for _, times := range []int{1, 2, 3, 7, 65536/of - 1, 65536 / of} {
				all = append(all, of*times-1, of*times)
				if of*times < 65536 {
					all = append(all, of*times+1)
				}
			}
		}
	}
	return all
}

// everyQuota hands each quota that may be to tell, from the least on, with the pages that it takes by kinds and by runs. They are counted block by block, a page whenever a block finds no room in those before it.
func everyQuota(tell func(quota int, by []int, runs int)) {
	blocks := make([]int, len(small))
	by := make([]int, len(small))
	runs := 0
	for quota := 1; quota <= 65536; quota++ {
		for c, k := range small {
			if quota%k.unit != 0 {
				continue
			}
			blocks[c]++
			if blocks[c] > by[c]*k.per {
				by[c]++
			}
		}
		if quota%512 == 0 {
			runs++
		}
		tell(quota, by, runs)
	}
}

func together(by []int, runs int) int {
	all := runs
	for _, pages := range by {
		all += pages
	}
	return all
}

// P5.1

func TestByAndRunsOfEveryQuota(t *testing.T) {
	everyQuota(func(quota int, by []int, runs int) {
		for c, want := range by {
			if got := By(c, quota); got != want {
				t.Fatalf("By(%d, %d): %d, want %d", c, quota, got, want)
			}
		}
		if got := Runs(quota); got != runs {
			t.Fatalf("Runs(%d): %d, want %d", quota, got, runs)
		}
	})
}

func TestByBesideTheFirstBlock(t *testing.T) {
	for c, k := range small {
		if a, b, d := By(c, k.unit-1), By(c, k.unit), By(c, k.unit+1); a != 0 || b != 1 || d != 1 {
			t.Errorf("kind %d, %d bytes and those beside: %d, %d, %d", c, k.unit, a, b, d)
		}
	}
}

// A page comes with the block behind a whole page of them, not with the bytes behind it.
func TestByBesideWholePages(t *testing.T) {
	for c, k := range small {
		whole := k.unit * k.per
		for n := 1; (n+1)*whole <= 65536; n++ {
			full, next := n*whole, n*whole+k.unit
			for _, quota := range []int{full - 1, full, full + 1, next - 1} {
				if got := By(c, quota); got != n {
					t.Errorf("By(%d, %d): %d, want %d", c, quota, got, n)
				}
			}
			if got := By(c, next); got != n+1 {
				t.Errorf("By(%d, %d): %d, want %d", c, next, got, n+1)
			}
		}
	}
}

func TestRunsBesidePages(t *testing.T) {
	for n := 1; n <= 128; n++ {
		if a, b := Runs(n*512-1), Runs(n*512); a != n-1 || b != n {
			t.Errorf("%d bytes and one fewer: %d, %d", n*512, b, a)
		}
	}
}

func TestByOfTheLeastAndTheGreatestQuota(t *testing.T) {
	for c, want := range []int{128, 128, 137, 128, 137, 128, 171, 128} {
		if got := By(c, 65536); got != want {
			t.Errorf("By(%d, 65536): %d, want %d", c, got, want)
		}
		if got := By(c, 1); got != 0 {
			t.Errorf("By(%d, 1): %d", c, got)
		}
		if a, b := By(c, 0), By(c, 65537); a != 0 || b != 0 {
			t.Errorf("kind %d, quotas 0 and 65537: %d, %d", c, a, b)
		}
	}
	if a, b, c, d := Runs(0), Runs(1), Runs(65536), Runs(65537); a != 0 || b != 0 || c != 128 || d != 0 {
		t.Error(a, b, c, d)
	}
}

func TestByOfOtherKinds(t *testing.T) {
	for _, c := range notSmall {
		for _, quota := range append(someQuotas(), noQuotas...) {
			if got := By(c, quota); got != 0 {
				t.Errorf("By(%d, %d): %d", c, quota, got)
			}
		}
	}
}

func TestByAndRunsOfWrongQuotas(t *testing.T) {
	for _, quota := range noQuotas {
		for c := range small {
			if got := By(c, quota); got != 0 {
				t.Errorf("By(%d, %d): %d", c, quota, got)
			}
		}
		if got := Runs(quota); got != 0 {
			t.Errorf("Runs(%d): %d", quota, got)
		}
	}
}

// P5.2

func TestOfEveryQuota(t *testing.T) {
	everyQuota(func(quota int, by []int, runs int) {
		pages := together(by, runs)
		got, err := Of(quota)
		if got != sum.Sum(complex(float64(quota), float64(pages))) || err != api.OK {
			t.Fatalf("Of(%d): %v, %d, want %d pages", quota, got, err, pages)
		}
		if !got.Right() || got.Bytes() != quota || got.Pages() != pages {
			t.Fatalf("Of(%d): right %v, %d bytes, %d pages", quota, got.Right(), got.Bytes(), got.Pages())
		}
	})
}

func TestOfWrongQuotas(t *testing.T) {
	for _, quota := range noQuotas {
		if got, err := Of(quota); got != 0 || err != api.ErrArg {
			t.Errorf("Of(%d): %v, %d", quota, got, err)
		}
	}
}

func TestFitsOfEveryQuota(t *testing.T) {
	everyQuota(func(quota int, by []int, runs int) {
		pages := together(by, runs)
		if Fits(quota, pages-1) || !Fits(quota, pages) || !Fits(quota, pages+1) {
			t.Fatalf("%d bytes take %d pages: one fewer %v, so many %v, one more %v", quota, pages, Fits(quota, pages-1), Fits(quota, pages), Fits(quota, pages+1))
		}
	})
}

func TestFitsOfPagesFarAway(t *testing.T) {
	for _, quota := range someQuotas() {
		for _, pages := range []int{-1, -2, -9, -512, -4096, math.MinInt32, -1 << 40, math.MinInt + 1, math.MinInt} {
			if Fits(quota, pages) {
				t.Errorf("Fits(%d, %d)", quota, pages)
			}
		}
		for _, pages := range []int{4096, 1 << 31, 1 << 32, 1 << 40, 1<<40 + 1, 1<<53 + 1, 1 << 62, math.MaxInt - 1, math.MaxInt} {
			if !Fits(quota, pages) {
				t.Errorf("Fits(%d, %d) doesn't", quota, pages)
			}
		}
	}
}

func TestFitsOfWrongQuotas(t *testing.T) {
	for _, quota := range noQuotas {
		for _, pages := range []int{math.MinInt, -1, 0, 1, 9, 100, 1213, 4096, 1 << 40, math.MaxInt} {
			if Fits(quota, pages) {
				t.Errorf("Fits(%d, %d)", quota, pages)
			}
		}
	}
}

// A quota below the least block takes no page at all.
func TestQuotasBelowTheLeastBlock(t *testing.T) {
	for quota := 1; quota < 16; quota++ {
		if got, err := Of(quota); got.Bytes() != quota || got.Pages() != 0 || err != api.OK {
			t.Errorf("Of(%d): %v, %d", quota, got, err)
		}
		if !Fits(quota, 0) || Fits(quota, -1) {
			t.Errorf("%d: fits 0 pages %v, -1 %v", quota, Fits(quota, 0), Fits(quota, -1))
		}
	}
}

// P5.3

// store is who asks for blocks and gives them back, as the chapter says: how many blocks each page of a small kind has, and how many pages each run.
type store struct {
	quota, charged int
	pages          [][]int
	runs           []int
}

func newStore(quota int) *store {
	return &store{quota: quota, pages: make([][]int, len(small))}
}

// ask tells whether there was a block: not, if the cost were above the quota. A block comes out of that of the pages with a free one which pick names.
func (s *store) ask(c int, pick func(n int) int) bool {
	if s.charged+small[c].unit > s.quota {
		return false
	}
	s.charged += small[c].unit
	var room []int
	for at, blocks := range s.pages[c] {
		if blocks < small[c].per {
			room = append(room, at)
		}
	}
	if len(room) == 0 {
		s.pages[c] = append(s.pages[c], 1)
		return true
	}
	s.pages[c][room[pick(len(room))]]++
	return true
}

func (s *store) give(c, at int) {
	s.charged -= small[c].unit
	s.pages[c][at]--
	if s.pages[c][at] == 0 {
		s.pages[c] = append(s.pages[c][:at], s.pages[c][at+1:]...)
	}
}

func (s *store) askRun(pages int) bool {
	if s.charged+512*pages > s.quota {
		return false
	}
	s.charged += 512 * pages
	s.runs = append(s.runs, pages)
	return true
}

func (s *store) giveRun(at int) {
	s.charged -= 512 * s.runs[at]
	s.runs = append(s.runs[:at], s.runs[at+1:]...)
}

// held tells how many pages the runs have, and how many there are in all.
func (s *store) held() (runs, all int) {
	for _, pages := range s.runs {
		runs += pages
	}
	all = runs
	for _, pages := range s.pages {
		all += len(pages)
	}
	return runs, all
}

func (s *store) check(t *testing.T) {
	t.Helper()
	for c, pages := range s.pages {
		if len(pages) > By(c, s.quota) {
			t.Fatalf("quota %d: %d pages of the kind %d, By: %d", s.quota, len(pages), c, By(c, s.quota))
		}
	}
	runs, all := s.held()
	if runs > Runs(s.quota) {
		t.Fatalf("quota %d: %d pages of runs, Runs: %d", s.quota, runs, Runs(s.quota))
	}
	if most, err := Of(s.quota); all > most.Pages() || err != api.OK {
		t.Fatalf("quota %d: %d pages, Of: %v, %d", s.quota, all, most, err)
	}
}

func first(int) int { return 0 }

// Who asks for blocks of one kind alone, till the quota is reached, has just the pages that By (or Runs) says: no fewer would do.
func TestOneKindAloneTakesAllItsPages(t *testing.T) {
	for _, quota := range someQuotas() {
		for c := range small {
			s := newStore(quota)
			for s.ask(c, first) {
			}
			s.check(t)
			if got := len(s.pages[c]); got != By(c, quota) {
				t.Errorf("quota %d: the kind %d has %d pages, By: %d", quota, c, got, By(c, quota))
			}
		}
		s := newStore(quota)
		for s.askRun(1) {
		}
		s.check(t)
		if got, _ := s.held(); got != Runs(quota) {
			t.Errorf("quota %d: %d pages of runs, Runs: %d", quota, got, Runs(quota))
		}
	}
}

// thin leaves one block in each page of a kind, so that most pages are held at least cost.
func (s *store) thin(c int) {
	for at := range s.pages[c] {
		for s.pages[c][at] > 1 {
			s.give(c, at)
		}
	}
}

// orders are some orders of the small kinds, with the greater and the lesser ones first.
var orders = [][]int{{0, 1, 2, 3, 4, 5, 6, 7}, {7, 6, 5, 4, 3, 2, 1, 0}, {6, 2, 4, 0, 7, 1, 5, 3}, {0, 7, 1, 6, 2, 5, 3, 4}, {2, 6, 2, 6, 2, 6, 4, 0}}

// All bytes go into one kind after the other, and each leaves its pages behind nearly empty.
func TestPagesLeftNearlyEmpty(t *testing.T) {
	for _, quota := range someQuotas() {
		for _, order := range orders {
			s := newStore(quota)
			for range 2 {
				for _, c := range order {
					for s.ask(c, first) {
					}
					s.check(t)
					s.thin(c)
				}
				for s.askRun(1) {
				}
				s.check(t)
				for len(s.runs) > 1 {
					s.giveRun(0)
				}
			}
		}
	}
}

func (s *store) walk(t *testing.T, r *rand.Rand, steps int) {
	asks := 50
	for range steps {
		if r.Intn(100) == 0 {
			asks = 20 + r.Intn(75)
		}
		c := r.Intn(len(small) + 1)
		switch ask := r.Intn(100) < asks; {
		case c < len(small) && ask:
			s.ask(c, r.Intn)
		case c < len(small) && len(s.pages[c]) > 0:
			s.give(c, r.Intn(len(s.pages[c])))
		case c == len(small) && ask:
			s.askRun(1 + r.Intn(16))
		case c == len(small) && len(s.runs) > 0:
			s.giveRun(r.Intn(len(s.runs)))
		}
		s.check(t)
	}
}

func TestBlocksAskedForAndGivenBackInManyOrders(t *testing.T) {
	for seed, quota := range someQuotas() {
		newStore(quota).walk(t, rand.New(rand.NewSource(int64(seed))), 1500)
	}
}

// P5.4

func TestAGreaterQuotaNeverTakesLess(t *testing.T) {
	before, _ := Of(1)
	for quota := 2; quota <= api.MaxQuota; quota++ {
		for c := range small {
			if By(c, quota) < By(c, quota-1) {
				t.Fatalf("By(%d, %d): %d, of one less: %d", c, quota, By(c, quota), By(c, quota-1))
			}
		}
		if Runs(quota) < Runs(quota-1) {
			t.Fatalf("Runs(%d): %d, of one less: %d", quota, Runs(quota), Runs(quota-1))
		}
		got, err := Of(quota)
		if err != api.OK || !before.Fits(got) || before == got {
			t.Fatalf("Of(%d): %v, %d, of one less: %v", quota, got, err, before)
		}
		before = got
	}
}

func TestWhatFitsAGreaterQuotaFitsALesserOne(t *testing.T) {
	for _, pages := range []int{-1, 0, 1, 8, 9, 19, 20, 64, 128, 512, 1000, 1213, 4096} {
		for quota := 2; quota <= api.MaxQuota; quota++ {
			if Fits(quota, pages) && !Fits(quota-1, pages) {
				t.Fatalf("%d bytes fit %d pages, one less doesn't", quota, pages)
			}
		}
	}
}

// The chapter's examples.

func TestExamples(t *testing.T) {
	for _, x := range []struct {
		quota     int
		by        []int
		runs, all int
	}{
		{512, []int{1, 1, 1, 1, 1, 1, 1, 1}, 1, 9},
		{16, []int{1, 0, 0, 0, 0, 0, 0, 0}, 0, 1},
		{1024, []int{2, 2, 3, 2, 2, 2, 3, 2}, 2, 20},
	} {
		got, err := Of(x.quota)
		if got.Bytes() != x.quota || got.Pages() != x.all || err != api.OK {
			t.Errorf("Of(%d): %v, %d", x.quota, got, err)
		}
		for c, want := range x.by {
			if pages := By(c, x.quota); pages != want {
				t.Errorf("By(%d, %d): %d, want %d", c, x.quota, pages, want)
			}
		}
		if Runs(x.quota) != x.runs {
			t.Errorf("Runs(%d): %d, want %d", x.quota, Runs(x.quota), x.runs)
		}
	}
}

// The document's first example: 100 bytes take at most 5 pages, and fit a colour's 16.
func TestExampleOfTheWhole(t *testing.T) {
	if got, err := Of(100); got.Pages() != 5 || err != api.OK || !Fits(100, 16) || !Fits(100, 5) || Fits(100, 4) {
		t.Error(got, err)
	}
}
