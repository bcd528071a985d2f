package table

import (
	"fmt"
	"math"
	"math/big"
	"math/rand"
	"slices"
	"testing"

	"garth/api"
)

// The bounds, written out by the chapters' numbers.
const (
	windowBegin   = 131072
	windowEnd     = 25 * 131072
	leastLocal    = 256
	greatestLocal = 6399
	greatestPage  = 1048576
)

// locals are local pages, the least and the greatest one among them.
var locals = []int{256, 257, 258, 300, 511, 512, 513, 4095, 4096, 6398, 6399}

// noLocals are numbers that are no local page; the lower bits of some are one's, and some are no float without a loss.
var noLocals = []int{
	255, 254, 128, 1, 0, -1, -2, -255, -256, -257, -6399, -6400, math.MinInt32, -1 << 32, -1<<32 + 256, -1<<53 - 1, math.MinInt + 256, math.MinInt + 1, math.MinInt,
	6400, 6401, 6656, 8192, 65536 + 256, 131072, 131072 + 256, 1 << 20, math.MaxInt32, 1<<32 + 256, 1<<32 + 6399, 1<<53 + 1, 1<<62 + 256, math.MaxInt - 1, math.MaxInt,
}

// pages are pages of the arena, the least and the greatest one among them; some are local pages' numbers too.
var pages = []int{0, 1, 2, 3, 7, 255, 256, 257, 511, 512, 4095, 4096, 6399, 6400, 65536, 1048574, 1048575, 1048576}

// noPages are numbers that are no page; the lower bits of some are one's.
var noPages = []int{
	-1, -2, -7, -512, -1048575, -1048576, -1048577, math.MinInt32, -1 << 32, -1<<32 + 7, math.MinInt + 7, math.MinInt + 1, math.MinInt,
	1048577, 1048578, 1 << 21, 1 << 30, math.MaxInt32, 1 << 32, 1<<32 + 7, 1<<53 + 1, 1 << 54, 1<<55 + 7, 1 << 62, math.MaxInt - 1, math.MaxInt,
}

// pair says that a local page is a page.
type pair struct{ v, p int }

// plain is a table the plain way.
type plain struct {
	row []pair
}

func (w *plain) find(v int) int {
	for _, one := range w.row {
		if one.v == v {
			return one.p
		}
	}
	return -1
}

func (w *plain) holder(p int) int {
	for _, one := range w.row {
		if one.p == p {
			return one.v
		}
	}
	return -1
}

func (w *plain) set(v, p int) api.Errno {
	if v < leastLocal || v > greatestLocal {
		return api.ErrArg
	}
	if p < 0 || p > greatestPage {
		return api.ErrArg
	}
	if w.find(v) != -1 || w.holder(p) != -1 {
		return api.ErrThere
	}
	w.row = append(slices.Clone(w.row), pair{v, p})
	return api.OK
}

func (w *plain) unset(v int) (int, api.Errno) {
	p := w.find(v)
	if p == -1 {
		return 0, api.ErrNone
	}
	w.row = slices.DeleteFunc(slices.Clone(w.row), func(one pair) bool { return one.v == v })
	return p, api.OK
}

func (w *plain) swap(v, p int) (int, api.Errno) {
	if p < 0 || p > greatestPage {
		return 0, api.ErrArg
	}
	if w.find(v) == -1 {
		return 0, api.ErrNone
	}
	if w.holder(p) != -1 {
		return 0, api.ErrThere
	}
	old, _ := w.unset(v)
	w.row = append(w.row, pair{v, p})
	return old, api.OK
}

// pieces goes byte by byte.
func (w *plain) pieces(addr, n int) ([]api.Span, api.Errno) {
	end := new(big.Int).Add(big.NewInt(int64(addr)), big.NewInt(int64(n)))
	if n < 0 || addr < windowBegin || end.Cmp(big.NewInt(windowEnd)) > 0 {
		return nil, api.ErrRange
	}
	var all []api.Span
	last := -1
	for b := addr; b < addr+n; b++ {
		v := b / 512
		if v != last {
			p := w.find(v)
			if p == -1 {
				return nil, api.ErrRange
			}
			all = append(all, api.Span{At: p*512 + b%512})
			last = v
		}
		all[len(all)-1].N++
	}
	return all, api.OK
}

func (w *plain) copied() *plain {
	return &plain{row: slices.Clone(w.row)}
}

// is holds all that a table tells against the pairs that it should be, and asks twice, since to ask changes nothing.
func is(t *testing.T, x *Table, row ...pair) {
	t.Helper()
	var rising []int
	for _, one := range row {
		rising = append(rising, one.v)
	}
	slices.Sort(rising)
	for range 2 {
		if all := x.All(); !slices.Equal(all, rising) {
			t.Fatalf("All: %v, want %v", all, rising)
		}
		if x.Len() != len(row) {
			t.Fatalf("Len: %d, want %d (%v)", x.Len(), len(row), row)
		}
		for _, one := range row {
			if p := x.Find(one.v); p != one.p {
				t.Fatalf("Find(%d): %d, want %d", one.v, p, one.p)
			}
			if v := x.Holder(one.p); v != one.v {
				t.Fatalf("Holder(%d): %d, want %d", one.p, v, one.v)
			}
		}
	}
}

// tellsNoOther asks for local pages and pages of which a table, which has those of the row alone, has none.
func tellsNoOther(t *testing.T, x *Table, row []pair, asked ...int) {
	t.Helper()
	w := &plain{row: row}
	for _, k := range slices.Concat(asked, locals, noLocals, pages, noPages) {
		if p := x.Find(k); p != w.find(k) {
			t.Fatalf("Find(%d): %d, want %d (%v)", k, p, w.find(k), row)
		}
		if v := x.Holder(k); v != w.holder(k) {
			t.Fatalf("Holder(%d): %d, want %d (%v)", k, v, w.holder(k), row)
		}
	}
}

func mapped(t *testing.T, x *Table, v, p int, want api.Errno) {
	t.Helper()
	if err := x.Map(v, p); err != want {
		t.Fatalf("Map(%d, %d): %v, want %v", v, p, err, want)
	}
}

func unmapped(t *testing.T, x *Table, v, wantPage int, want api.Errno) {
	t.Helper()
	if p, err := x.Unmap(v); p != wantPage || err != want {
		t.Fatalf("Unmap(%d): %d, %v, want %d, %v", v, p, err, wantPage, want)
	}
}

func swapped(t *testing.T, x *Table, v, p, wantPage int, want api.Errno) {
	t.Helper()
	if old, err := x.Swap(v, p); old != wantPage || err != want {
		t.Fatalf("Swap(%d, %d): %d, %v, want %d, %v", v, p, old, err, wantPage, want)
	}
}

func lie(t *testing.T, x *Table, addr, n int, want ...api.Span) {
	t.Helper()
	if got, err := x.Pieces(addr, n); err != api.OK || !slices.Equal(got, want) {
		t.Fatalf("Pieces(%d, %d): %v, %v, want %v", addr, n, got, err, want)
	}
}

func lieNowhere(t *testing.T, x *Table, addr, n int, want api.Errno) {
	t.Helper()
	if got, err := x.Pieces(addr, n); err != want || len(got) != 0 {
		t.Fatalf("Pieces(%d, %d): %v, %v, want none, %v", addr, n, got, err, want)
	}
}

// filled is a table of these pairs.
func filled(t *testing.T, row ...pair) *Table {
	t.Helper()
	x := New()
	if x == nil {
		t.Fatal("New: nil")
	}
	for _, one := range row {
		mapped(t, x, one.v, one.p, api.OK)
	}
	is(t, x, row...)
	return x
}

// many are n pairs in a jumble that is the same whenever it is asked for.
func many(n int) []pair {
	src := rand.New(rand.NewSource(int64(n)))
	vs, ps := src.Perm(greatestLocal-leastLocal+1), src.Perm(greatestPage + 1)[:n]
	row := make([]pair, n)
	for i := range row {
		row[i] = pair{leastLocal + vs[i], ps[i]}
	}
	return row
}

// rows are what tables may say: nothing, one local page, two, and many.
func rows() [][]pair {
	return [][]pair{
		nil, {{256, 0}}, {{256, 1048576}}, {{6399, 0}}, {{6399, 1048576}}, {{256, 256}}, {{300, 7}},
		{{256, 7}, {257, 3}}, {{257, 3}, {256, 7}}, {{256, 257}, {257, 256}}, {{6399, 0}, {256, 1048576}}, {{256, 1}, {6399, 0}},
		{{300, 5}, {301, 6}, {302, 7}}, {{302, 5}, {300, 7}, {301, 6}}, {{512, 256}, {256, 512}, {6399, 6399}}, many(17), many(200),
	}
}

// freshLocal and freshPage are in none of the rows that are written out; where a row of many has one, they go on to the next.
func freshLocal(row []pair) int {
	v := 1000
	for (&plain{row: row}).find(v) != -1 {
		v++
	}
	return v
}

func freshPage(row []pair) int {
	p := 2000
	for (&plain{row: row}).holder(p) != -1 {
		p++
	}
	return p
}

// without is a row that lacks the one at that place.
func without(row []pair, at int) []pair {
	return slices.Delete(slices.Clone(row), at, at+1)
}

// P15.1

func TestNewHasNoLocalPage(t *testing.T) {
	x := filled(t)
	tellsNoOther(t, x, nil)
	is(t, x)
}

func TestFindAndHolder(t *testing.T) {
	for _, row := range rows() {
		x := filled(t, row...)
		tellsNoOther(t, x, row, freshLocal(row), freshPage(row))
		is(t, x, row...)
	}
}

func TestFindAndHolderOfAllNumbersAroundTheBounds(t *testing.T) {
	row := []pair{{256, 0}, {257, 6400}, {6399, 255}, {6398, 6399}, {400, 1048576}, {401, 1048575}}
	x, w := filled(t, row...), &plain{row: row}
	for _, from := range []int{-600, 0, 200, 6300, 1048000} {
		for k := from; k < from+700; k++ {
			if x.Find(k) != w.find(k) || x.Holder(k) != w.holder(k) {
				t.Fatalf("%d: Find %d, Holder %d, want %d, %d", k, x.Find(k), x.Holder(k), w.find(k), w.holder(k))
			}
		}
	}
}

func TestLocalPagesAndPagesAreApart(t *testing.T) {
	// A number that is a local page of the table isn't a page of it, nor the other way round.
	x := filled(t, pair{300, 400})
	if x.Find(400) != -1 || x.Holder(300) != -1 || x.Find(300) != 400 || x.Holder(400) != 300 {
		t.Fatal(x.Find(400), x.Holder(300), x.Find(300), x.Holder(400))
	}
	mapped(t, x, 400, 300, api.OK)
	is(t, x, pair{300, 400}, pair{400, 300})
	unmapped(t, x, 400, 300, api.OK)
	is(t, x, pair{300, 400})
}

func TestAllRisesWhateverTheOrder(t *testing.T) {
	for _, n := range []int{1, 2, 3, 9, 100, 1000} {
		row := many(n)
		x := filled(t, row...)
		rising := x.All()
		if !slices.IsSorted(rising) || len(rising) != n {
			t.Fatal(rising)
		}
		slices.Reverse(row)
		if again := filled(t, row...).All(); !slices.Equal(again, rising) {
			t.Fatalf("%v, the other way round %v", rising, again)
		}
		for range 20 {
			if again := x.All(); !slices.Equal(again, rising) {
				t.Fatalf("%v, asked again %v", rising, again)
			}
		}
	}
}

func TestLenAndAllStepByStep(t *testing.T) {
	row := many(60)
	x := New()
	for n, one := range row {
		is(t, x, row[:n]...)
		mapped(t, x, one.v, one.p, api.OK)
	}
	is(t, x, row...)
	for n, one := range row {
		unmapped(t, x, one.v, one.p, api.OK)
		is(t, x, row[n+1:]...)
	}
}

func TestAllIsNewMemory(t *testing.T) {
	for _, row := range rows() {
		x := filled(t, row...)
		one, two := x.All(), x.All()
		want := slices.Clone(two)
		for i := range one {
			one[i] = -7
		}
		spare := one[:cap(one)]
		for i := range spare {
			spare[i] = 44
		}
		_ = append(one[:0], 88, 99)
		if !slices.Equal(two, want) {
			t.Fatalf("All of which another one was changed: %v, want %v", two, want)
		}
		is(t, x, row...)
	}
}

func TestAllStaysAsItWas(t *testing.T) {
	for _, row := range rows() {
		x := filled(t, row...)
		all := x.All()
		want := slices.Clone(all)
		v, p := freshLocal(row), freshPage(row)
		mapped(t, x, v, p, api.OK)
		for _, one := range row {
			unmapped(t, x, one.v, one.p, api.OK)
		}
		if !slices.Equal(all, want) {
			t.Fatalf("All behind later calls: %v, want %v", all, want)
		}
		is(t, x, pair{v, p})
	}
}

// P15.2: Map

func TestMapOfEachLocalPageToEachPage(t *testing.T) {
	for _, v := range locals {
		for _, p := range pages {
			x := filled(t, pair{v, p})
			tellsNoOther(t, x, []pair{{v, p}})
		}
	}
}

func TestMapOfAllLocalPages(t *testing.T) {
	x := New()
	var row []pair
	for v := -300; v < 7000; v++ {
		want := api.ErrArg
		if v >= 256 && v <= 6399 {
			want = api.OK
			row = append(row, pair{v, 7000 - v})
		}
		mapped(t, x, v, 7000-v, want)
	}
	is(t, x, row...)
	if x.Len() != 6144 {
		t.Fatal(x.Len())
	}
	mapped(t, x, 255, 9000, api.ErrArg)
	mapped(t, x, 6400, 9000, api.ErrArg)
	mapped(t, x, 256, 9000, api.ErrThere)
	is(t, x, row...)
}

func TestMapOfWhatIsNoLocalPage(t *testing.T) {
	for _, row := range rows() {
		x := filled(t, row...)
		for _, v := range noLocals {
			mapped(t, x, v, freshPage(row), api.ErrArg)
			if x.Find(v) != -1 || x.Holder(freshPage(row)) != -1 {
				t.Fatal(v, x.Find(v))
			}
		}
		is(t, x, row...)
		mapped(t, x, freshLocal(row), freshPage(row), api.OK)
	}
}

func TestMapOfWhatIsNoPage(t *testing.T) {
	for _, row := range rows() {
		x := filled(t, row...)
		for _, p := range noPages {
			mapped(t, x, freshLocal(row), p, api.ErrArg)
			if x.Find(freshLocal(row)) != -1 || x.Holder(p) != -1 {
				t.Fatal(p, x.Holder(p))
			}
		}
		is(t, x, row...)
		mapped(t, x, freshLocal(row), freshPage(row), api.OK)
	}
}

func TestMapOfTwoWrongArguments(t *testing.T) {
	x := filled(t, pair{300, 7})
	for _, v := range noLocals {
		for _, p := range noPages {
			mapped(t, x, v, p, api.ErrArg)
		}
	}
	is(t, x, pair{300, 7})
}

func TestMapTellsArgumentsFirst(t *testing.T) {
	for _, row := range rows() {
		x := filled(t, row...)
		for _, one := range row {
			for _, v := range noLocals {
				mapped(t, x, v, one.p, api.ErrArg)
			}
			for _, p := range noPages {
				mapped(t, x, one.v, p, api.ErrArg)
			}
		}
		is(t, x, row...)
	}
}

func TestMapOfLocalPageThatHasOne(t *testing.T) {
	for _, row := range rows() {
		x := filled(t, row...)
		for _, one := range row {
			mapped(t, x, one.v, freshPage(row), api.ErrThere)
			mapped(t, x, one.v, one.p, api.ErrThere)
			if x.Holder(freshPage(row)) != -1 {
				t.Fatal("a page that was refused is one's")
			}
		}
		is(t, x, row...)
	}
}

func TestMapOfPageThatIsOnes(t *testing.T) {
	for _, row := range rows() {
		x := filled(t, row...)
		for _, one := range row {
			mapped(t, x, freshLocal(row), one.p, api.ErrThere)
			if x.Find(freshLocal(row)) != -1 {
				t.Fatal("a local page that was refused has a page")
			}
		}
		is(t, x, row...)
	}
}

func TestMapOfBothThatAreThere(t *testing.T) {
	row := []pair{{256, 0}, {300, 7}, {6399, 1048576}}
	x := filled(t, row...)
	for _, one := range row {
		for _, other := range row {
			mapped(t, x, one.v, other.p, api.ErrThere)
		}
	}
	is(t, x, row...)
}

// P15.2: Unmap

func TestUnmapOfEachOne(t *testing.T) {
	for _, row := range rows() {
		for at, one := range row {
			x, left := filled(t, row...), without(row, at)
			unmapped(t, x, one.v, one.p, api.OK)
			is(t, x, left...)
			tellsNoOther(t, x, left, one.v, one.p)

			unmapped(t, x, one.v, 0, api.ErrNone)
			is(t, x, left...)
		}
	}
}

func TestUnmapOfWhatHasNone(t *testing.T) {
	for _, row := range rows() {
		x, w := filled(t, row...), &plain{row: row}
		for _, v := range slices.Concat(locals, noLocals, []int{freshLocal(row)}) {
			if w.find(v) == -1 {
				unmapped(t, x, v, 0, api.ErrNone)
				is(t, x, row...)
			}
		}
	}
}

func TestUnmappedIsMappedAgain(t *testing.T) {
	for _, row := range rows() {
		for at, one := range row {
			x, left := filled(t, row...), without(row, at)
			fresh := freshPage(row)

			// To the same page.
			unmapped(t, x, one.v, one.p, api.OK)
			mapped(t, x, one.v, one.p, api.OK)
			is(t, x, row...)

			// To another one: the first one is nobody's then.
			unmapped(t, x, one.v, one.p, api.OK)
			mapped(t, x, one.v, fresh, api.OK)
			is(t, x, append(left, pair{one.v, fresh})...)
			tellsNoOther(t, x, append(left, pair{one.v, fresh}), one.p)
			unmapped(t, x, one.v, fresh, api.OK)
			is(t, x, left...)
		}
	}
}

func TestPageOfAnUnmapIsAnothers(t *testing.T) {
	for _, row := range rows() {
		for at, one := range row {
			x, left := filled(t, row...), without(row, at)
			other := freshLocal(row)
			mapped(t, x, other, one.p, api.ErrThere)
			unmapped(t, x, one.v, one.p, api.OK)
			mapped(t, x, other, one.p, api.OK)
			is(t, x, append(left, pair{other, one.p})...)
			tellsNoOther(t, x, append(left, pair{other, one.p}), one.v)

			mapped(t, x, one.v, one.p, api.ErrThere)
			unmapped(t, x, one.v, 0, api.ErrNone)
			is(t, x, append(left, pair{other, one.p})...)
		}
	}
}

func TestUnmapOfPageZero(t *testing.T) {
	// Its answer is the 0 that stands beside an error too.
	x := filled(t, pair{400, 0})
	unmapped(t, x, 400, 0, api.OK)
	unmapped(t, x, 400, 0, api.ErrNone)
	is(t, x)
	mapped(t, x, 401, 0, api.OK)
	swapped(t, x, 401, 5, 0, api.OK)
	is(t, x, pair{401, 5})
}

// P15.2: Swap

func TestSwapOfEachOne(t *testing.T) {
	for _, row := range rows() {
		w := &plain{row: row}
		for at, one := range row {
			for _, p := range []int{freshPage(row), 0, 1, 1048575, 1048576, one.v} {
				if w.holder(p) != -1 {
					continue
				}
				x := filled(t, row...)
				next := append(without(row, at), pair{one.v, p})
				swapped(t, x, one.v, p, one.p, api.OK)
				is(t, x, next...)
				tellsNoOther(t, x, next, one.p)

				swapped(t, x, one.v, one.p, p, api.OK)
				is(t, x, row...)
			}
		}
	}
}

func TestSwapOfWhatIsNoPage(t *testing.T) {
	for _, row := range rows() {
		x := filled(t, row...)
		for _, p := range noPages {
			for _, one := range row {
				swapped(t, x, one.v, p, 0, api.ErrArg)
			}
			// It is told first, whatever the local page is.
			swapped(t, x, freshLocal(row), p, 0, api.ErrArg)
			for _, v := range noLocals {
				swapped(t, x, v, p, 0, api.ErrArg)
			}
		}
		is(t, x, row...)
	}
}

func TestSwapOfWhatHasNone(t *testing.T) {
	for _, row := range rows() {
		x := filled(t, row...)
		for _, v := range append(slices.Clone(noLocals), freshLocal(row)) {
			swapped(t, x, v, freshPage(row), 0, api.ErrNone)
			// It is told ahead of ErrThere.
			for _, one := range row {
				swapped(t, x, v, one.p, 0, api.ErrNone)
			}
		}
		is(t, x, row...)
		tellsNoOther(t, x, row, freshLocal(row), freshPage(row))
	}
}

func TestSwapWithPageThatIsOnes(t *testing.T) {
	for _, row := range rows() {
		x := filled(t, row...)
		for _, one := range row {
			// Of its own page too.
			for _, other := range []pair{one, row[0], row[len(row)-1], row[len(row)/2]} {
				swapped(t, x, one.v, other.p, 0, api.ErrThere)
			}
		}
		is(t, x, row...)
	}
}

func TestPageOfASwapIsAnothers(t *testing.T) {
	x := filled(t, pair{256, 7}, pair{257, 3})
	swapped(t, x, 256, 9, 7, api.OK)
	mapped(t, x, 258, 7, api.OK)
	is(t, x, pair{256, 9}, pair{257, 3}, pair{258, 7})
	swapped(t, x, 256, 7, 0, api.ErrThere)
	mapped(t, x, 259, 9, api.ErrThere)

	swapped(t, x, 257, 4, 3, api.OK)
	swapped(t, x, 256, 3, 9, api.OK)
	is(t, x, pair{256, 3}, pair{257, 4}, pair{258, 7})

	unmapped(t, x, 258, 7, api.OK)
	swapped(t, x, 257, 7, 4, api.OK)
	is(t, x, pair{256, 3}, pair{257, 7})
	unmapped(t, x, 256, 3, api.OK)
	unmapped(t, x, 257, 7, api.OK)
	is(t, x)
	tellsNoOther(t, x, nil, 3, 4, 7, 9)
}

func TestTwoLocalPagesChangePages(t *testing.T) {
	x := filled(t, pair{256, 7}, pair{257, 3})
	swapped(t, x, 256, 1048576, 7, api.OK)
	swapped(t, x, 257, 7, 3, api.OK)
	swapped(t, x, 256, 3, 1048576, api.OK)
	is(t, x, pair{256, 3}, pair{257, 7})
}

// P15.3

// runs are local pages, most of them one behind the other, whose pages aren't.
var runs = []pair{{256, 40}, {257, 3}, {258, 1048576}, {260, 0}, {261, 1}, {6397, 12}, {6398, 90}, {6399, 11}}

func TestPiecesWithinOneLocalPage(t *testing.T) {
	for _, one := range runs {
		x := filled(t, one)
		begin := one.v * 512
		for _, from := range []int{0, 1, 2, 255, 256, 500, 510, 511} {
			for _, to := range []int{1, 2, 255, 256, 500, 511, 512} {
				if from < to {
					lie(t, x, begin+from, to-from, api.Span{At: one.p*512 + from, N: to - from})
				}
			}
		}
		is(t, x, one)
	}
}

func TestPiecesOfOneLocalPageThatEndOutsideOfIt(t *testing.T) {
	x := filled(t, pair{300, 7})
	begin := 300 * 512
	for _, addr := range []int{begin, begin + 1, begin + 511} {
		lie(t, x, addr, begin+512-addr, api.Span{At: 7*512 + addr - begin, N: begin + 512 - addr})
		lieNowhere(t, x, addr, begin+513-addr, api.ErrRange)
		lieNowhere(t, x, addr, 4096, api.ErrRange)
	}
	lieNowhere(t, x, begin-1, 1, api.ErrRange)
	lieNowhere(t, x, begin-1, 2, api.ErrRange)
	lieNowhere(t, x, begin-1, 513, api.ErrRange)
	lieNowhere(t, x, begin-512, 1024, api.ErrRange)
	lieNowhere(t, x, begin+512, 1, api.ErrRange)
}

func TestPiecesOverTwoLocalPages(t *testing.T) {
	x := filled(t, pair{256, 7}, pair{257, 3})
	lie(t, x, 131072+511, 2, api.Span{At: 7*512 + 511, N: 1}, api.Span{At: 3 * 512, N: 1})
	lie(t, x, 131072+511, 513, api.Span{At: 7*512 + 511, N: 1}, api.Span{At: 3 * 512, N: 512})
	lie(t, x, 131072, 513, api.Span{At: 7 * 512, N: 512}, api.Span{At: 3 * 512, N: 1})
	lie(t, x, 131072, 1024, api.Span{At: 7 * 512, N: 512}, api.Span{At: 3 * 512, N: 512})
	lie(t, x, 131072+1, 1022, api.Span{At: 7*512 + 1, N: 511}, api.Span{At: 3 * 512, N: 511})
	lie(t, x, 131072+512, 512, api.Span{At: 3 * 512, N: 512})
	lie(t, x, 131072+1023, 1, api.Span{At: 3*512 + 511, N: 1})
	lieNowhere(t, x, 131072+1023, 2, api.ErrRange)
	lieNowhere(t, x, 131072, 1025, api.ErrRange)
	lieNowhere(t, x, 131071, 2, api.ErrRange)
}

func TestPiecesOfPagesOneBehindTheOtherAreApart(t *testing.T) {
	// The pages lie one behind the other too: each local page has a piece of its own all the same.
	x := filled(t, pair{300, 5}, pair{301, 6}, pair{302, 7})
	lie(t, x, 300*512+10, 1100, api.Span{At: 5*512 + 10, N: 502}, api.Span{At: 6 * 512, N: 512}, api.Span{At: 7 * 512, N: 86})
	lie(t, x, 300*512, 1536, api.Span{At: 5 * 512, N: 512}, api.Span{At: 6 * 512, N: 512}, api.Span{At: 7 * 512, N: 512})
}

func TestPiecesOverThreeLocalPagesOneOfWhichHasNone(t *testing.T) {
	row := []pair{{300, 9}, {301, 0}, {302, 1048576}}
	begin := 300 * 512
	for at := range row {
		x := filled(t, without(row, at)...)
		for _, from := range []int{0, 1, 511} {
			for _, to := range []int{1025, 1535, 1536} {
				lieNowhere(t, x, begin+from, to-from, api.ErrRange)
			}
		}
		// Bytes without one of that local page lie somewhere.
		if at != 0 {
			lie(t, x, begin, 512, api.Span{At: 9 * 512, N: 512})
		}
		if at != 2 {
			lie(t, x, begin+1024, 512, api.Span{At: 1048576 * 512, N: 512})
		}
		if at == 0 {
			lie(t, x, begin+512, 1024, api.Span{At: 0, N: 512}, api.Span{At: 1048576 * 512, N: 512})
			lieNowhere(t, x, begin+511, 1025, api.ErrRange)
		}
		if at == 2 {
			lie(t, x, begin, 1024, api.Span{At: 9 * 512, N: 512}, api.Span{At: 0, N: 512})
			lieNowhere(t, x, begin, 1025, api.ErrRange)
		}
		mapped(t, x, row[at].v, row[at].p, api.OK)
		lie(t, x, begin+511, 514, api.Span{At: 9*512 + 511, N: 1}, api.Span{At: 0, N: 512}, api.Span{At: 1048576 * 512, N: 1})
		unmapped(t, x, row[at].v, row[at].p, api.OK)
		lieNowhere(t, x, begin+511, 514, api.ErrRange)
	}
}

func TestPiecesOfNoBytes(t *testing.T) {
	for _, row := range [][]pair{nil, {{256, 7}}, {{6399, 7}}, runs} {
		x := filled(t, row...)
		for _, addr := range []int{windowBegin, windowBegin + 1, windowBegin + 511, windowBegin + 512, 300 * 512, 300*512 + 7, windowEnd - 513, windowEnd - 512, windowEnd - 1, windowEnd} {
			lie(t, x, addr, 0)
		}
		for _, addr := range []int{windowBegin - 1, windowBegin - 512, 0, 1, -1, windowEnd + 1, windowEnd + 512, math.MinInt, math.MaxInt} {
			lieNowhere(t, x, addr, 0, api.ErrRange)
		}
	}
}

func TestPiecesOfFewerThanNoBytes(t *testing.T) {
	for _, row := range [][]pair{nil, runs} {
		x := filled(t, row...)
		for _, addr := range []int{windowBegin - 1, windowBegin, windowBegin + 5, windowBegin + 512, 300 * 512, windowEnd - 1, windowEnd, windowEnd + 1, 0, math.MinInt, math.MaxInt} {
			for _, n := range []int{-1, -2, -5, -512, -513, -131072, math.MinInt32, -1 << 32, math.MinInt + 1, math.MinInt} {
				lieNowhere(t, x, addr, n, api.ErrRange)
			}
		}
	}
}

func TestPiecesAtTheWindowsEnds(t *testing.T) {
	x := filled(t, runs...)
	lie(t, x, windowBegin, 1, api.Span{At: 40 * 512, N: 1})
	lieNowhere(t, x, windowBegin-1, 1, api.ErrRange)
	lieNowhere(t, x, windowBegin-1, 2, api.ErrRange)
	lieNowhere(t, x, windowBegin-512, 1024, api.ErrRange)
	lie(t, x, windowEnd-1, 1, api.Span{At: 11*512 + 511, N: 1})
	lieNowhere(t, x, windowEnd-1, 2, api.ErrRange)
	lieNowhere(t, x, windowEnd, 1, api.ErrRange)
	lie(t, x, windowEnd-1024, 1024, api.Span{At: 90 * 512, N: 512}, api.Span{At: 11 * 512, N: 512})
	lieNowhere(t, x, windowEnd-1024, 1025, api.ErrRange)
}

func TestPiecesOfSumsThatAreTooGreat(t *testing.T) {
	great := []int{math.MaxInt, math.MaxInt - 1, math.MaxInt - 131072, math.MaxInt - 131071, math.MaxInt - windowEnd, math.MaxInt - windowEnd + 1, 1 << 62, 1<<62 + 131072, 1<<53 + 1, 1 << 32, 1<<32 + 131072, math.MaxInt32}
	x := filled(t, runs...)
	for _, g := range great {
		for _, addr := range []int{windowBegin, windowBegin + 1, 257 * 512, windowEnd - 1, windowEnd, 0, -1, math.MinInt, math.MinInt + 131072} {
			lieNowhere(t, x, addr, g, api.ErrRange)
		}
		for _, n := range []int{1, 2, 512, 131072, -1, math.MinInt} {
			lieNowhere(t, x, g, n, api.ErrRange)
			lieNowhere(t, x, -g, n, api.ErrRange)
		}
		for _, other := range great {
			lieNowhere(t, x, g, other, api.ErrRange)
			lieNowhere(t, x, -g, other, api.ErrRange)
		}
	}
	is(t, x, runs...)
}

func TestPiecesOfTheWholeWindow(t *testing.T) {
	x := New()
	want := make([]api.Span, 0, 6144)
	for v := leastLocal; v <= greatestLocal; v++ {
		p := (v * 4099) % 7001
		mapped(t, x, v, p, api.OK)
		want = append(want, api.Span{At: p * 512, N: 512})
	}
	lie(t, x, windowBegin, windowEnd-windowBegin, want...)
	lieNowhere(t, x, windowBegin, windowEnd-windowBegin+1, api.ErrRange)
	for _, v := range []int{leastLocal, 3000, greatestLocal} {
		p := x.Find(v)
		unmapped(t, x, v, p, api.OK)
		lieNowhere(t, x, windowBegin, windowEnd-windowBegin, api.ErrRange)
		mapped(t, x, v, p, api.OK)
	}
	lie(t, x, windowBegin, windowEnd-windowBegin, want...)
}

func TestPiecesOfAllBytesThatMayBeNearPagesEnds(t *testing.T) {
	x, w := filled(t, runs...), &plain{row: runs}
	for _, v := range []int{255, 256, 257, 258, 259, 260, 262, 6396, 6397, 6399, 6400} {
		for _, near := range []int{-2, -1, 0, 1, 2, 300} {
			for _, n := range []int{-1, 0, 1, 2, 3, 210, 211, 212, 213, 509, 510, 511, 512, 513, 514, 1022, 1023, 1024, 1025, 1026, 1536, 1537, 2048} {
				samePieces(t, x, w, v*512+near, n)
			}
		}
	}
}

func samePieces(t *testing.T, x *Table, w *plain, addr, n int) {
	t.Helper()
	want, wantErr := w.pieces(addr, n)
	if wantErr != api.OK {
		lieNowhere(t, x, addr, n, wantErr)
		return
	}
	lie(t, x, addr, n, want...)
}

func TestPiecesFollowSwaps(t *testing.T) {
	x := filled(t, pair{256, 7}, pair{257, 3})
	swapped(t, x, 257, 1048576, 3, api.OK)
	lie(t, x, 131072+500, 20, api.Span{At: 4084, N: 12}, api.Span{At: 1048576 * 512, N: 8})
	swapped(t, x, 256, 3, 7, api.OK)
	lie(t, x, 131072+500, 20, api.Span{At: 3*512 + 500, N: 12}, api.Span{At: 1048576 * 512, N: 8})
	unmapped(t, x, 257, 1048576, api.OK)
	lieNowhere(t, x, 131072+500, 20, api.ErrRange)
	mapped(t, x, 257, 7, api.OK)
	lie(t, x, 131072+500, 20, api.Span{At: 3*512 + 500, N: 12}, api.Span{At: 7 * 512, N: 8})
}

func TestPiecesIsNewMemory(t *testing.T) {
	x := filled(t, runs...)
	one, err := x.Pieces(windowBegin+5, 1500)
	two, errToo := x.Pieces(windowBegin+5, 1500)
	if err != api.OK || errToo != api.OK {
		t.Fatal(err, errToo)
	}
	want := slices.Clone(two)
	spare := one[:cap(one)]
	for i := range spare {
		spare[i] = api.Span{At: -1, N: -1, Wrote: true}
	}
	_ = append(one[:0], api.Span{N: 5}, api.Span{N: 6})
	if !slices.Equal(two, want) {
		t.Fatalf("Pieces of which other ones were changed: %v, want %v", two, want)
	}
	lie(t, x, windowBegin+5, 1500, want...)
	is(t, x, runs...)

	swapped(t, x, 256, 77, 40, api.OK)
	unmapped(t, x, 257, 3, api.OK)
	if !slices.Equal(two, want) {
		t.Fatalf("Pieces behind later calls: %v, want %v", two, want)
	}
}

// P15.4

func TestCopyOfWhichEitherGoesOn(t *testing.T) {
	for _, row := range rows() {
		one := filled(t, row...)
		two := one.Copy()
		if two == nil || two == one {
			t.Fatal("Copy is none, or the same one")
		}
		is(t, two, row...)
		tellsNoOther(t, two, row)

		v, p := freshLocal(row), freshPage(row)
		mapped(t, one, v, p, api.OK)
		is(t, two, row...)
		tellsNoOther(t, two, row, v, p)
		mapped(t, two, v, p+1, errOf(row, p+1))
		if errOf(row, p+1) == api.OK {
			unmapped(t, two, v, p+1, api.OK)
		}
		is(t, one, append(slices.Clone(row), pair{v, p})...)

		for _, had := range row {
			unmapped(t, one, had.v, had.p, api.OK)
		}
		is(t, one, pair{v, p})
		is(t, two, row...)
		for at, had := range row {
			swapped(t, two, had.v, p, had.p, api.OK)
			is(t, two, append(without(row, at), pair{had.v, p})...)
			swapped(t, two, had.v, had.p, p, api.OK)
		}
		is(t, one, pair{v, p})
		is(t, two, row...)
	}
}

// errOf is what Map tells of a page for a local page that has none.
func errOf(row []pair, p int) api.Errno {
	if (&plain{row: row}).holder(p) != -1 {
		return api.ErrThere
	}
	return api.OK
}

func TestCopyTellsPiecesOfItsOwn(t *testing.T) {
	one := filled(t, pair{256, 7}, pair{257, 3})
	two := one.Copy()
	swapped(t, one, 256, 9, 7, api.OK)
	unmapped(t, two, 257, 3, api.OK)
	mapped(t, two, 257, 9, api.OK)
	lie(t, one, 131072+500, 20, api.Span{At: 9*512 + 500, N: 12}, api.Span{At: 1536, N: 8})
	lie(t, two, 131072+500, 20, api.Span{At: 4084, N: 12}, api.Span{At: 9 * 512, N: 8})
	is(t, one, pair{256, 9}, pair{257, 3})
	is(t, two, pair{256, 7}, pair{257, 9})
}

func TestCopyOfEmptyTable(t *testing.T) {
	emptied := filled(t, pair{256, 3}, pair{257, 4})
	unmapped(t, emptied, 256, 3, api.OK)
	unmapped(t, emptied, 257, 4, api.OK)
	for _, one := range []*Table{New(), emptied, {}} {
		two, three := one.Copy(), one.Copy()
		is(t, two)
		mapped(t, two, 256, 3, api.OK)
		is(t, one)
		mapped(t, one, 6399, 3, api.OK)
		is(t, two, pair{256, 3})
		is(t, one, pair{6399, 3})
		is(t, three)
	}
}

func TestCopyOfCopy(t *testing.T) {
	one := filled(t, pair{256, 1}, pair{257, 2})
	two := one.Copy()
	mapped(t, two, 258, 3, api.OK)
	three := two.Copy()
	swapped(t, three, 256, 8, 1, api.OK)
	unmapped(t, two, 257, 2, api.OK)
	is(t, one, pair{256, 1}, pair{257, 2})
	is(t, two, pair{256, 1}, pair{258, 3})
	is(t, three, pair{256, 8}, pair{257, 2}, pair{258, 3})
}

func TestNil(t *testing.T) {
	var x *Table
	is(t, x)
	tellsNoOther(t, x, nil)
	for _, v := range slices.Concat(locals, noLocals) {
		for _, p := range slices.Concat(pages, noPages) {
			mapped(t, x, v, p, api.ErrNil)
			swapped(t, x, v, p, 0, api.ErrNil)
		}
		unmapped(t, x, v, 0, api.ErrNil)
	}
	for _, addr := range []int{windowBegin, windowBegin + 500, windowEnd, 0, -1, math.MinInt, math.MaxInt} {
		for _, n := range []int{0, 1, 20, -1, math.MinInt, math.MaxInt} {
			lieNowhere(t, x, addr, n, api.ErrNil)
		}
	}
	if c := x.Copy(); c != nil {
		t.Fatal(c)
	}
}

func TestTableThatNobodyMadeIsEmpty(t *testing.T) {
	is(t, &Table{})
	tellsNoOther(t, &Table{}, nil)
	x := &Table{}
	unmapped(t, x, 256, 0, api.ErrNone)
	swapped(t, x, 256, 1, 0, api.ErrNone)
	lie(t, x, windowBegin, 0)
	lieNowhere(t, x, windowBegin, 1, api.ErrRange)
	mapped(t, x, 256, 4, api.OK)
	is(t, x, pair{256, 4})
}

func TestTwoTablesNeverMeet(t *testing.T) {
	one, two := New(), New()
	mapped(t, one, 256, 7, api.OK)
	is(t, two)
	mapped(t, two, 300, 7, api.OK)
	mapped(t, two, 256, 8, api.OK)
	unmapped(t, one, 256, 7, api.OK)
	is(t, one)
	is(t, two, pair{300, 7}, pair{256, 8})
}

// P15.5

func TestPiecesAreAsManyBytesAndLieInTheTablesPages(t *testing.T) {
	row := []pair{}
	for v := 1000; v < 1100; v++ {
		row = append(row, pair{v, (v * 7919) % 100003})
	}
	x := filled(t, row...)
	src := rand.New(rand.NewSource(15))
	for range 3000 {
		addr := 1000*512 + src.Intn(100*512)
		n := src.Intn(1100*512 - addr + 1)
		got, err := x.Pieces(addr, n)
		if err != api.OK {
			t.Fatal(addr, n, err)
		}
		// What a tenant sees from addr on, told back from where it lies.
		next := addr
		for _, s := range got {
			v := x.Holder(s.At / 512)
			if s.N <= 0 || v == -1 || (s.At+s.N-1)/512 != s.At/512 || v*512+s.At%512 != next || s.Wrote {
				t.Fatalf("Pieces(%d, %d): %v isn't in the page of the local byte %d", addr, n, s, next)
			}
			next += s.N
		}
		if next != addr+n {
			t.Fatalf("Pieces(%d, %d): %d bytes", addr, n, next-addr)
		}
	}
}

func TestUnlikeLocalBytesLieAtUnlikePlaces(t *testing.T) {
	x := filled(t, runs...)
	swapped(t, x, 257, 7, 3, api.OK)
	swapped(t, x, 258, 3, 1048576, api.OK)
	unmapped(t, x, 260, 0, api.OK)
	mapped(t, x, 262, 0, api.OK)
	seen := map[int]int{}
	for _, v := range x.All() {
		for b := v * 512; b < v*512+512; b++ {
			got, err := x.Pieces(b, 1)
			if err != api.OK || len(got) != 1 || got[0].N != 1 {
				t.Fatal(b, got, err)
			}
			if other, there := seen[got[0].At]; there {
				t.Fatalf("the local bytes %d and %d lie at %d", other, b, got[0].At)
			}
			seen[got[0].At] = b
		}
	}
	if len(seen) != 512*x.Len() {
		t.Fatal(len(seen))
	}
}

// All of them, held against a plain table.

// call is one of the calls that change a table.
type call struct {
	name string
	v, p int
}

func step(t *testing.T, x *Table, w *plain, c call) {
	t.Helper()
	var got, want int
	var err, wantErr api.Errno
	switch c.name {
	case "Map":
		err, wantErr = x.Map(c.v, c.p), w.set(c.v, c.p)
	case "Unmap":
		got, err = x.Unmap(c.v)
		want, wantErr = w.unset(c.v)
	case "Swap":
		got, err = x.Swap(c.v, c.p)
		want, wantErr = w.swap(c.v, c.p)
	}
	if got != want || err != wantErr {
		t.Fatalf("%v: %d, %v, want %d, %v (%v)", c, got, err, want, wantErr, w.row)
	}
	is(t, x, w.row...)
	for _, k := range []int{c.v, c.p, -1, 0, 255, 256, 6399, 6400, 1048576} {
		if x.Find(k) != w.find(k) || x.Holder(k) != w.holder(k) {
			t.Fatalf("behind %v: of %d: %d, %d (%v)", c, k, x.Find(k), x.Holder(k), w.row)
		}
	}
}

// TestEverySequence goes on from a copy at each step, so a copy that knows of the other one shows too.
func TestEverySequence(t *testing.T) {
	var calls []call
	for _, v := range []int{255, 256, 257} {
		calls = append(calls, call{"Unmap", v, 0})
		for _, p := range []int{-1, 0, 1} {
			calls = append(calls, call{"Map", v, p}, call{"Swap", v, p})
		}
	}
	var on func(x *Table, w *plain, left int)
	on = func(x *Table, w *plain, left int) {
		for _, addr := range []int{windowBegin - 1, windowBegin, windowBegin + 511, windowBegin + 512} {
			for _, n := range []int{0, 1, 2, 513} {
				samePieces(t, x, w, addr, n)
			}
		}
		if left == 0 {
			return
		}
		for _, c := range calls {
			next, plainNext := x.Copy(), w.copied()
			step(t, next, plainNext, c)
			on(next, plainNext, left-1)
			is(t, x, w.row...)
		}
	}
	on(New(), &plain{}, 4)
}

func TestWalks(t *testing.T) {
	for _, numbers := range []int{1, 2, 3, 10, 60} {
		for _, first := range []int{leastLocal - 1, 1000, greatestLocal + 1 - numbers} {
			t.Run(fmt.Sprint(numbers, " from ", first), func(t *testing.T) {
				walk(t, rand.New(rand.NewSource(int64(numbers*first))), first, numbers)
			})
		}
	}
}

func walk(t *testing.T, src *rand.Rand, first, numbers int) {
	x, w := New(), &plain{}
	for turn := range 2500 {
		c := call{"Swap", first + src.Intn(numbers+1), src.Intn(numbers+4) - 1}
		// Seasons of many Maps and of many Unmaps, so that it fills and empties.
		switch k := src.Intn(10); {
		case k < 2+4*(turn/500%2):
			c.name = "Map"
		case k < 7:
			c.name = "Unmap"
		}
		if src.Intn(20) == 0 {
			c.p = noPages[src.Intn(len(noPages))]
		}
		if src.Intn(20) == 0 {
			c.v = noLocals[src.Intn(len(noLocals))]
		}
		step(t, x, w, c)
		samePieces(t, x, w, first*512+src.Intn(512*numbers), src.Intn(600*(1+src.Intn(3)))-1)
		if src.Intn(40) == 0 {
			x, w = goOnWithOne(t, src, x, w, first)
		}
	}
}

// goOnWithOne goes on with one of a table and its copy, and leaves the other one in disorder.
func goOnWithOne(t *testing.T, src *rand.Rand, x *Table, w *plain, first int) (*Table, *plain) {
	t.Helper()
	other, v := x.Copy(), w.copied()
	if src.Intn(2) == 0 {
		x, w, other, v = other, v, x, w
	}
	for _, name := range []string{"Unmap", "Map", "Swap"} {
		step(t, other, v, call{name, first + src.Intn(3), src.Intn(6)})
		is(t, x, w.row...)
	}
	return x, w
}

// The chapter's examples.

func TestExamples(t *testing.T) {
	x := New()
	mapped(t, x, 256, 7, api.OK)
	mapped(t, x, 257, 3, api.OK)
	lie(t, x, 131072+500, 20, api.Span{At: 4084, N: 12}, api.Span{At: 1536, N: 8})
	lieNowhere(t, x, 131072+1000, 30, api.ErrRange)
}
