package view

import (
	"fmt"
	"math"
	"math/rand"
	"slices"
	"strings"
	"testing"

	"garth/api"
	"garth/arena"
	"garth/table"
)

// The bounds, written out by the chapters' numbers.
const (
	windowBegin  = 131072
	windowEnd    = 25 * 131072
	greatestPage = 1048576
)

// wild are numbers that are no address within the window, and no right number of bytes; the lower bits of some are one's.
var wild = []int{
	math.MinInt, math.MinInt + 1, math.MinInt + windowBegin, -1 << 32, -1<<32 + windowBegin, math.MinInt32, -windowBegin, -512, -2, -1,
	windowEnd + 1, 1<<32 + windowBegin, 1<<53 + 1, 1<<62 + windowBegin, math.MaxInt32, math.MaxInt - windowBegin, math.MaxInt - 1, math.MaxInt,
}

// pair says that a local page is a page.
type pair struct{ v, p int }

// call is one of the four; to is its address, if it has but one.
type call struct {
	name        string
	to, from, n int
	data        string
}

// plain is the same the plain way: byte by byte, each by its own place.
type plain struct {
	bytes   []byte
	row     []pair
	touches []api.Span
}

// where tells where a local byte lies, if it lies in the arena.
func (w *plain) where(addr int) (int, bool) {
	if addr < windowBegin || addr >= windowEnd {
		return 0, false
	}
	for _, one := range w.row {
		if one.v == addr/512 {
			at := one.p*512 + addr%512
			return at, at < len(w.bytes)
		}
	}
	return 0, false
}

func (w *plain) there(addr, n int) bool {
	if n < 0 || addr < windowBegin || addr > windowEnd || n > windowEnd-addr {
		return false
	}
	for k := range n {
		if _, ok := w.where(addr + k); !ok {
			return false
		}
	}
	return true
}

// touch notes bytes that are there, anew at each local page.
func (w *plain) touch(addr, n int, wrote bool) {
	for k := range n {
		at, _ := w.where(addr + k)
		if k == 0 || (addr+k)%512 == 0 {
			w.touches = append(w.touches, api.Span{At: at, N: 0, Wrote: wrote})
		}
		w.touches[len(w.touches)-1].N++
	}
}

func (w *plain) read(addr, n int) string {
	w.touch(addr, n, false)
	var all []byte
	for k := range n {
		at, _ := w.where(addr + k)
		all = append(all, w.bytes[at])
	}
	return string(all)
}

func (w *plain) write(addr int, data string) {
	w.touch(addr, len(data), true)
	for k := range len(data) {
		at, _ := w.where(addr + k)
		w.bytes[at] = data[k]
	}
}

func (w *plain) do(c call) (string, api.Errno) {
	n := c.n
	if c.name == "Write" {
		n = len(c.data)
	}
	if !w.there(c.to, n) || c.name == "Copy" && !w.there(c.from, n) {
		return "", api.ErrRange
	}
	switch c.name {
	case "Read":
		return w.read(c.to, n), api.OK
	case "Write":
		w.write(c.to, c.data)
	case "Zero":
		w.write(c.to, strings.Repeat("\x00", n))
	case "Copy":
		w.write(c.to, w.read(c.from, n))
	}
	return "", api.OK
}

func (c call) do(a *arena.Arena, x *table.Table) (string, api.Errno) {
	switch c.name {
	case "Read":
		return Read(a, x, c.to, c.n)
	case "Write":
		return "", Write(a, x, c.to, c.data)
	case "Zero":
		return "", Zero(a, x, c.to, c.n)
	}
	return "", Copy(a, x, c.to, c.from, c.n)
}

// world is an arena and a table, and the same the plain way.
type world struct {
	a *arena.Arena
	x *table.Table
	w *plain
}

// pattern are bytes of which none is 0, and no two pages' are the same ones.
func pattern(n int) string {
	all := make([]byte, n)
	for k := range all {
		all[k] = byte(1 + (k*7+k/512*29+k/65536)%255)
	}
	return string(all)
}

// newWorld has an arena of so many bytes with a pattern in it, of which no touch is noted.
func newWorld(t *testing.T, size int, row ...pair) *world {
	t.Helper()
	a, err := arena.New(size)
	if err != api.OK {
		t.Fatalf("arena.New(%d): %v", size, err)
	}
	if err := a.Write(0, pattern(size)); err != api.OK {
		t.Fatalf("the arena's Write: %v", err)
	}
	a.Forget()
	x := table.New()
	for _, one := range row {
		if err := x.Map(one.v, one.p); err != api.OK {
			t.Fatalf("Map(%d, %d): %v", one.v, one.p, err)
		}
	}
	return &world{a, x, &plain{bytes: []byte(pattern(size)), row: row}}
}

// step does a call both ways: answer, touches, all bytes of the arena and the table must be the same.
func (o *world) step(t *testing.T, c call) (string, api.Errno) {
	t.Helper()
	got, err := c.do(o.a, o.x)
	want, wantErr := o.w.do(c)
	if err != wantErr || got != want {
		t.Fatalf("%s: %q, %v, want %q, %v", tell(c), short(got), err, short(want), wantErr)
	}
	o.same(t, tell(c))
	return got, err
}

func (o *world) same(t *testing.T, behind string) {
	t.Helper()
	if touches := o.a.Touched(); !slices.Equal(touches, o.w.touches) {
		t.Fatalf("behind %s: touched %v, want %v", behind, touches, o.w.touches)
	}
	all, err := o.a.Read(0, o.a.Size())
	if err != api.OK {
		t.Fatalf("the arena's Read: %v", err)
	}
	if all != string(o.w.bytes) {
		for k := range all {
			if all[k] != o.w.bytes[k] {
				t.Fatalf("behind %s: the byte %d is %d, want %d", behind, k, all[k], o.w.bytes[k])
			}
		}
		t.Fatalf("behind %s: %d bytes, want %d", behind, len(all), len(o.w.bytes))
	}
	if o.x.Len() != len(o.w.row) {
		t.Fatalf("behind %s: %d local pages, want %d", behind, o.x.Len(), len(o.w.row))
	}
	for _, one := range o.w.row {
		if p := o.x.Find(one.v); p != one.p {
			t.Fatalf("behind %s: the local page %d is %d, want %d", behind, one.v, p, one.p)
		}
	}
	o.a.Forget()
	o.w.touches = nil
}

// answers does a call both ways, and wants that error.
func (o *world) answers(t *testing.T, c call, want api.Errno) {
	t.Helper()
	if _, err := o.step(t, c); err != want {
		t.Fatalf("%s: %v, want %v", tell(c), err, want)
	}
}

func tell(c call) string {
	return fmt.Sprintf("%s{to %d, from %d, n %d, data %q}", c.name, c.to, c.from, c.n, short(c.data))
}

func short(s string) string {
	if len(s) > 40 {
		return fmt.Sprintf("%s.. (%d bytes)", s[:40], len(s))
	}
	return s
}

// fourOf are calls of the four with the same bytes; Copy has them as its to, and other bytes as its from.
func fourOf(addr, n, other int) []call {
	calls := []call{{"Read", addr, 0, n, ""}, {"Zero", addr, 0, n, ""}, {"Copy", addr, other, n, ""}, {"Copy", other, addr, n, ""}}
	if n >= 0 && n <= windowEnd {
		calls = append(calls, call{"Write", addr, 0, 0, strings.Repeat("w", n)})
	}
	return calls
}

// allAnswer wants that error of the four with these bytes, each from a fresh world.
func allAnswer(t *testing.T, fresh func() *world, addr, n, other int, want api.Errno) {
	t.Helper()
	for _, c := range fourOf(addr, n, other) {
		fresh().answers(t, c, want)
	}
}

// twoPages has the local pages 256 and 257, at the pages 7 and 3; behind them lies none.
func twoPages(t *testing.T) *world {
	t.Helper()
	return newWorld(t, 8192, pair{256, 7}, pair{257, 3})
}

// P16.1

func TestNil(t *testing.T) {
	numbers := append([]int{0, 1, 511, windowBegin - 1, windowBegin, windowBegin + 510, windowEnd}, wild...)
	o := twoPages(t)
	for _, addr := range numbers {
		for _, n := range append([]int{4}, numbers...) {
			for _, c := range []call{{"Read", addr, 0, n, ""}, {"Write", addr, 0, 0, "abcd"}, {"Write", addr, 0, 0, ""}, {"Zero", addr, 0, n, ""}, {"Copy", addr, windowBegin, n, ""}, {"Copy", windowBegin, addr, n, ""}} {
				for k, args := range [][2]bool{{true, false}, {false, true}, {true, true}} {
					a, x := o.a, o.x
					if args[0] {
						a = nil
					}
					if args[1] {
						x = nil
					}
					if got, err := c.do(a, x); got != "" || err != api.ErrNil {
						t.Fatalf("%v, none of case %d: %q, %v, want ErrNil", c, k, got, err)
					}
				}
			}
		}
	}
	o.same(t, "calls without an arena or a table")
}

func TestNotWithinTheWindow(t *testing.T) {
	fresh := func() *world { return newWorld(t, 8192, pair{256, 7}, pair{257, 3}, pair{6398, 1}, pair{6399, 0}) }
	for _, one := range [][2]int{
		{windowBegin - 1, 0}, {windowBegin - 1, 1}, {windowBegin - 1, 2}, {windowBegin - 512, 512}, {windowBegin - 512, 513}, {0, 0}, {0, 1},
		{windowEnd, 1}, {windowEnd - 1, 2}, {windowEnd - 512, 513}, {windowEnd - 1024, 1025}, {windowEnd + 1, 0}, {windowEnd + 1, 1}, {windowEnd + 1, -1},
		{windowBegin, -1}, {windowBegin + 1, -1}, {windowBegin + 512, -512}, {windowEnd, -1}, {windowEnd, -512}, {windowBegin, windowEnd}, {windowBegin, windowEnd - windowBegin + 1},
	} {
		allAnswer(t, fresh, one[0], one[1], windowBegin, api.ErrRange)
	}
	// The bytes at the window's two ends themselves are good ones.
	for _, one := range [][2]int{{windowBegin, 1}, {windowBegin, 512}, {windowBegin, 1024}, {windowEnd - 1, 1}, {windowEnd - 512, 512}, {windowEnd - 1024, 1024}} {
		allAnswer(t, fresh, one[0], one[1], windowBegin, api.OK)
	}
}

func TestGreatestAndLeast(t *testing.T) {
	o := twoPages(t)
	good := []int{windowBegin, windowBegin + 510}
	for _, one := range wild {
		for _, n := range []int{0, 1, 4} {
			for _, c := range fourOf(one, n, windowBegin) {
				o.answers(t, c, api.ErrRange)
			}
		}
		for _, addr := range good {
			for _, other := range good {
				for _, c := range fourOf(addr, one, other) {
					if c.name != "Write" {
						o.answers(t, c, api.ErrRange)
					}
				}
			}
		}
		for _, two := range wild {
			for _, three := range wild {
				o.answers(t, call{"Read", one, 0, two, ""}, api.ErrRange)
				o.answers(t, call{"Zero", one, 0, two, ""}, api.ErrRange)
				o.answers(t, call{"Copy", one, two, three, ""}, api.ErrRange)
			}
		}
	}
}

func TestNoBytes(t *testing.T) {
	// 300 has no page, 301's isn't within the arena, and of 302's only a part is.
	o := newWorld(t, 8192+100, pair{256, 7}, pair{257, 3}, pair{301, greatestPage}, pair{302, 16})
	good := []int{windowBegin, windowBegin + 1, windowBegin + 511, windowBegin + 512, windowBegin + 1024, 300 * 512, 300*512 + 17, 301 * 512, 301*512 + 511, 302*512 + 99, 302*512 + 100, 302*512 + 511, windowEnd - 512, windowEnd - 1, windowEnd}
	for _, addr := range good {
		for _, other := range good {
			for _, c := range fourOf(addr, 0, other) {
				o.answers(t, c, api.OK)
			}
		}
	}
	for _, bad := range append([]int{0, 1, windowBegin - 512, windowBegin - 1}, wild...) {
		for _, other := range good {
			for _, c := range fourOf(bad, 0, other) {
				o.answers(t, c, api.ErrRange)
			}
		}
	}
	for _, c := range fourOf(windowBegin, 0, windowEnd) {
		newWorld(t, 0).answers(t, c, api.OK)
	}
}

// lacks are what a local page may lack, as a row for it, over an arena of 3 pages and 100 bytes (the page 3 is there in part).
func lacks(v int) map[string][]pair {
	return map[string][]pair{
		"no page":                      nil,
		"the page behind the arena":    {{v, 4}},
		"the greatest page":            {{v, greatestPage}},
		"a page that is there in part": {{v, 3}},
	}
}

func TestOneOfTheLocalPagesLacks(t *testing.T) {
	const size = 3*512 + 100
	for count := 1; count <= 3; count++ {
		for bad := range count {
			for name, lack := range lacks(400 + bad) {
				row := slices.Clone(lack)
				for k := range count {
					if k != bad {
						row = append(row, pair{400 + k, []int{2, 0, 1}[k]})
					}
				}
				fresh := func() *world { return newWorld(t, size, row...) }
				t.Run(fmt.Sprintf("%d of %d: %s", bad, count, name), func(t *testing.T) {
					begin, end := 400*512, (400+count)*512
					for _, from := range []int{begin, begin + 1, begin + 255, begin + 511} {
						for _, to := range []int{end - 511, end - 256, end - 1, end} {
							if to <= from || to < begin+bad*512 {
								continue
							}
							want := api.OK
							for addr := from; addr < to; addr++ {
								inBad := addr/512 == 400+bad
								if inBad && (name != "a page that is there in part" || addr%512 >= 100) {
									want = api.ErrRange
								}
							}
							allAnswer(t, fresh, from, to-from, from, want)
						}
					}
				})
			}
		}
	}
}

// TestOnlyTheLastPieceIsRefused: the pieces ahead of it are good ones, and must stay as they are, untouched.
func TestOnlyTheLastPieceIsRefused(t *testing.T) {
	for name, row := range map[string][]pair{
		"no page":              {},
		"behind the arena":     {{258, 16}},
		"far behind the arena": {{258, greatestPage}},
		"half within it":       {{258, 15}},
	} {
		size := 8192
		if name == "half within it" {
			size = 8192 - 256
		}
		row = append(row, pair{256, 7}, pair{257, 3}, pair{1000, 0}, pair{1001, 1}, pair{1002, 2})
		fresh := func() *world { return newWorld(t, size, row...) }
		for _, begin := range []int{256 * 512, 257 * 512, 258*512 - 1} {
			for _, end := range []int{258*512 + 257, 258*512 + 512} {
				for _, c := range fourOf(begin, end-begin, 1000*512) {
					o := fresh()
					got, err := c.do(o.a, o.x)
					if got != "" || err != api.ErrRange {
						t.Fatalf("%s: %s: %q, %v", name, tell(c), short(got), err)
					}
					if touches := o.a.Touched(); len(touches) != 0 {
						t.Fatalf("%s: %s touched %v", name, tell(c), touches)
					}
					if all, _ := o.a.Read(0, size); all != pattern(size) {
						t.Fatalf("%s: %s has changed a byte", name, tell(c))
					}
				}
			}
		}
	}
}

func TestLastPageOfTheArenaIsNotWhole(t *testing.T) {
	for _, part := range []int{1, 2, 100, 256, 510, 511} {
		size := 4*512 + part
		fresh := func() *world {
			return newWorld(t, size, pair{300, 4}, pair{301, 1}, pair{299, 0}, pair{500, 2}, pair{501, 3})
		}
		begin := 300 * 512
		for _, n := range []int{part - 1, part, part + 1, 512, 513} {
			want := api.OK
			if n > part {
				want = api.ErrRange
			}
			allAnswer(t, fresh, begin, n, 500*512, want)
			// From the local page ahead of it on.
			allAnswer(t, fresh, begin-3, n+3, 500*512, want)
		}
		allAnswer(t, fresh, begin+part-1, 1, 500*512, api.OK)
		allAnswer(t, fresh, begin+part-1, 2, 500*512, api.ErrRange)
		allAnswer(t, fresh, begin+part, 1, 500*512, api.ErrRange)
		allAnswer(t, fresh, begin+511, 1, 500*512, api.ErrRange)
		// Behind the part that is missing all is good again.
		allAnswer(t, fresh, begin+512, 512, 500*512, api.OK)
		allAnswer(t, fresh, begin+511, 2, 500*512, api.ErrRange)
	}
}

func TestNothingFindsRoomInASmallArena(t *testing.T) {
	for _, size := range []int{0, 1, 511} {
		fresh := func() *world { return newWorld(t, size, pair{256, 0}, pair{257, 1}) }
		allAnswer(t, fresh, windowBegin, size, windowBegin, api.OK)
		allAnswer(t, fresh, windowBegin, size+1, windowBegin, api.ErrRange)
		allAnswer(t, fresh, windowBegin, 512, windowBegin, api.ErrRange)
		allAnswer(t, fresh, windowBegin+512, 1, windowBegin+512, api.ErrRange)
	}
	fresh := func() *world { return newWorld(t, 512, pair{256, 0}, pair{257, 1}) }
	allAnswer(t, fresh, windowBegin, 512, windowBegin, api.OK)
	allAnswer(t, fresh, windowBegin, 513, windowBegin, api.ErrRange)
}

// TestNobodyMadeThem: an arena and a table that nobody made by New are empty ones.
func TestNobodyMadeThem(t *testing.T) {
	for n, want := range map[int]api.Errno{0: api.OK, 1: api.ErrRange, -1: api.ErrRange} {
		for _, c := range fourOf(windowBegin, n, windowBegin+1) {
			if got, err := c.do(&arena.Arena{}, &table.Table{}); got != "" || err != want {
				t.Errorf("%v: %q, %v, want %v", c, got, err, want)
			}
		}
	}
}

// TestCopyLooksAtBothSides: each side right or wrong, in each way; a wrong one is never covered by the other one, and nothing is read for nothing.
func TestCopyLooksAtBothSides(t *testing.T) {
	sides := []int{
		256 * 512, 256*512 + 500, 257 * 512, 900 * 512, 901*512 - 10, 902 * 512, // Right ones.
		258*512 - 1, 258 * 512, 901 * 512, 903*512 - 1, // Some bytes without a page, or not within the arena.
		windowBegin - 1, windowEnd - 1, windowEnd, windowEnd + 1, 0, -1, math.MinInt, math.MaxInt,
	}
	for _, to := range sides {
		for _, from := range sides {
			for _, n := range []int{-1, 0, 1, 2, 20, 100} {
				o := newWorld(t, 8192, pair{256, 7}, pair{257, 3}, pair{900, 4}, pair{901, 16}, pair{902, 5})
				o.step(t, call{"Copy", to, from, n, ""})
			}
		}
	}
	o := twoPages(t)
	if err := Copy(o.a, o.x, 258*512, 256*512, 1); err != api.ErrRange || len(o.a.Touched()) != 0 {
		t.Errorf("Copy to a local page without a page: %v, touched %v", err, o.a.Touched())
	}
	if err := Copy(o.a, o.x, 256*512, 258*512, 1); err != api.ErrRange || len(o.a.Touched()) != 0 {
		t.Errorf("Copy from a local page without a page: %v, touched %v", err, o.a.Touched())
	}
}

// P16.2

// TestTouches: one touch a piece, in the order of the local bytes, Copy's reads ahead of its writes; pieces whose pages are neighbours are two all the same.
func TestTouches(t *testing.T) {
	row := []pair{{256, 7}, {257, 3}, {258, 4}, {300, 0}, {301, 1}, {302, 2}}
	three := strings.Repeat("x", 512+6)
	read := []api.Span{{At: 4093, N: 3}, {At: 1536, N: 512}, {At: 2048, N: 3}}
	wrote := []api.Span{{At: 4093, N: 3, Wrote: true}, {At: 1536, N: 512, Wrote: true}, {At: 2048, N: 3, Wrote: true}}
	for _, one := range []struct {
		c    call
		want []api.Span
	}{
		{call{"Read", windowBegin + 509, 0, 518, ""}, read},
		{call{"Write", windowBegin + 509, 0, 0, three}, wrote},
		{call{"Zero", windowBegin + 509, 0, 518, ""}, wrote},
		{call{"Copy", 300 * 512, windowBegin + 509, 518, ""}, append(slices.Clone(read), api.Span{At: 0, N: 512, Wrote: true}, api.Span{At: 512, N: 6, Wrote: true})},
		{call{"Copy", windowBegin + 509, 300 * 512, 518, ""}, append([]api.Span{{At: 0, N: 512}, {At: 512, N: 6}}, wrote...)},
		{call{"Copy", windowBegin + 509, windowBegin + 509, 518, ""}, append(slices.Clone(read), wrote...)},
		{call{"Read", windowBegin, 0, 512, ""}, []api.Span{{At: 3584, N: 512}}},
		{call{"Read", windowBegin + 511, 0, 1, ""}, []api.Span{{At: 4095, N: 1}}},
		{call{"Read", windowBegin + 512, 0, 1, ""}, []api.Span{{At: 1536, N: 1}}},
		{call{"Zero", 300 * 512, 0, 1536, ""}, []api.Span{{At: 0, N: 512, Wrote: true}, {At: 512, N: 512, Wrote: true}, {At: 1024, N: 512, Wrote: true}}},
		{call{"Read", windowBegin, 0, 0, ""}, nil},
		{call{"Write", windowBegin, 0, 0, ""}, nil},
		{call{"Zero", windowBegin, 0, 0, ""}, nil},
		{call{"Copy", windowBegin, windowBegin + 1, 0, ""}, nil},
	} {
		o := newWorld(t, 8192, row...)
		if _, err := one.c.do(o.a, o.x); err != api.OK {
			t.Fatalf("%s: %v", tell(one.c), err)
		}
		if got := o.a.Touched(); !slices.Equal(got, one.want) {
			t.Errorf("%s touched %v, want %v", tell(one.c), got, one.want)
		}
		newWorld(t, 8192, row...).answers(t, one.c, api.OK)
	}
}

// TestTouchesAreNotedBehindTheOthers: what the arena has noted ahead of a call stays.
func TestTouchesAreNotedBehindTheOthers(t *testing.T) {
	o := twoPages(t)
	if err := o.a.Store(0, 5); err != api.OK {
		t.Fatal(err)
	}
	if err := Write(o.a, o.x, windowBegin+511, "ab"); err != api.OK {
		t.Fatal(err)
	}
	if _, err := Read(o.a, o.x, windowBegin+511, 1); err != api.OK {
		t.Fatal(err)
	}
	if _, err := Read(o.a, o.x, windowBegin+1023, 2); err != api.ErrRange {
		t.Fatal(err)
	}
	want := []api.Span{{At: 0, N: 8, Wrote: true}, {At: 4095, N: 1, Wrote: true}, {At: 1536, N: 1, Wrote: true}, {At: 4095, N: 1}}
	if got := o.a.Touched(); !slices.Equal(got, want) {
		t.Errorf("touched %v, want %v", got, want)
	}
}

// TestEdgesOfLocalPages: bytes that begin or end at a local page's first or last byte, over one, two and three of them.
func TestEdgesOfLocalPages(t *testing.T) {
	row := []pair{{700, 5}, {701, 2}, {702, 9}, {800, 0}, {801, 8}, {802, 1}, {803, 3}}
	edges := []int{0, 1, 2, 255, 510, 511, 512, 513, 1022, 1023, 1024, 1025, 1534, 1535, 1536}
	for _, begin := range edges {
		for _, end := range edges {
			if end < begin {
				continue
			}
			o := newWorld(t, 5120, row...)
			n := end - begin
			text := pattern(2000)[begin : begin+n]
			o.answers(t, call{"Read", 700*512 + begin, 0, n, ""}, api.OK)
			o.answers(t, call{"Write", 700*512 + begin, 0, 0, text}, api.OK)
			o.answers(t, call{"Copy", 800*512 + 300, 700*512 + begin, n, ""}, api.OK)
			if got, _ := o.step(t, call{"Read", 800*512 + 300, 0, n, ""}); got != text {
				t.Fatalf("%d bytes at %d: %q", n, begin, short(got))
			}
			o.answers(t, call{"Copy", 700*512 + begin, 800 * 512, n, ""}, api.OK)
			o.answers(t, call{"Zero", 700*512 + begin, 0, n, ""}, api.OK)
			if got, _ := o.step(t, call{"Read", 700*512 + begin, 0, n, ""}); got != strings.Repeat("\x00", n) {
				t.Fatalf("%d bytes at %d: %q", n, begin, short(got))
			}
		}
	}
}

// TestCopyOverOneAnother: to a lower place and to a higher one, over the seam of local pages whose pages lie in either order, and onto itself.
func TestCopyOverOneAnother(t *testing.T) {
	for _, row := range [][]pair{
		{{256, 7}, {257, 3}, {258, 5}}, {{256, 3}, {257, 7}, {258, 0}}, {{256, 2}, {257, 1}, {258, 0}}, {{256, 0}, {257, 1}, {258, 2}},
	} {
		for _, from := range []int{0, 1, 500, 508, 511, 512} {
			for _, shift := range []int{-513, -512, -511, -100, -5, -4, -3, -1, 0, 1, 3, 4, 5, 100, 511, 512, 513} {
				for _, n := range []int{1, 2, 4, 5, 20, 511, 512, 513, 600} {
					if from+shift < 0 || from+n > 1536 || from+shift+n > 1536 {
						continue
					}
					o := newWorld(t, 8192, row...)
					before, err := Read(o.a, o.x, windowBegin, 1536)
					if err != api.OK {
						t.Fatal(err)
					}
					o.a.Forget()
					o.answers(t, call{"Copy", windowBegin + from + shift, windowBegin + from, n, ""}, api.OK)
					want := before[:from+shift] + before[from:from+n] + before[from+shift+n:]
					if got, _ := Read(o.a, o.x, windowBegin, 1536); got != want {
						t.Fatalf("%v: Copy of %d bytes from %d by %d: %q", row, n, from, shift, got)
					}
				}
			}
		}
	}
}

func TestCopyByHand(t *testing.T) {
	for _, one := range []struct {
		to, from, n int
		want        string
	}{
		{508, 508, 8, "abcdefgh"}, {509, 508, 7, "aabcdefg"}, {508, 509, 7, "bcdefghh"}, {510, 508, 4, "ababcdgh"}, {508, 510, 4, "cdefefgh"}, {512, 508, 4, "abcdabcd"}, {508, 512, 4, "efghefgh"}, {511, 512, 1, "abceefgh"}, {512, 511, 1, "abcddfgh"}, {510, 510, 0, "abcdefgh"},
	} {
		o := twoPages(t)
		if err := Write(o.a, o.x, windowBegin+508, "abcdefgh"); err != api.OK {
			t.Fatal(err)
		}
		if err := Copy(o.a, o.x, windowBegin+one.to, windowBegin+one.from, one.n); err != api.OK {
			t.Fatal(err)
		}
		if got, err := Read(o.a, o.x, windowBegin+508, 8); got != one.want || err != api.OK {
			t.Errorf("Copy(%d, %d, %d): %q, %v, want %q", one.to, one.from, one.n, got, err, one.want)
		}
	}
}

// TestAnyBytes: texts stand as bytes do.
func TestAnyBytes(t *testing.T) {
	var all []byte
	for k := range 256 {
		all = append(all, byte(k))
	}
	o := twoPages(t)
	for _, text := range []string{string(all), "\x00\x00\x00\x00", "\xff\xfe\x80\xc0", "grün, 世界", "\xf0\x9f\x98", "a\x00b"} {
		for _, at := range []int{0, 300, 509, 511, 512} {
			o.answers(t, call{"Write", windowBegin + at, 0, 0, text}, api.OK)
			if got, _ := o.step(t, call{"Read", windowBegin + at, 0, len(text), ""}); got != text {
				t.Fatalf("%q at %d: %q", text, at, got)
			}
		}
	}
}

// TestWholeArena: every page of the greatest arena, each behind one that lies behind it.
func TestWholeArena(t *testing.T) {
	const size = 1 << 21
	a, err := arena.New(size)
	if err != api.OK {
		t.Fatal(err)
	}
	x := table.New()
	for k := range 4096 {
		if err := x.Map(300+k, 4095-k); err != api.OK {
			t.Fatal(err)
		}
	}
	text := pattern(size)
	if err := Write(a, x, 300*512, text); err != api.OK {
		t.Fatal(err)
	}
	for k := range 4096 {
		if got, _ := a.Read((4095-k)*512, 512); got != text[k*512:(k+1)*512] {
			t.Fatalf("the page %d: %q", 4095-k, got)
		}
	}
	if got, err := Read(a, x, 300*512, size); got != text || err != api.OK {
		t.Fatalf("%d bytes, %v", len(got), err)
	}
	if _, err := Read(a, x, 300*512, size+1); err != api.ErrRange {
		t.Fatal(err)
	}
	if err := Copy(a, x, 300*512, 300*512+1, size-1); err != api.OK {
		t.Fatal(err)
	}
	if got, err := Read(a, x, 300*512, size); got != text[1:]+text[size-1:] || err != api.OK {
		t.Fatalf("%d bytes, %v", len(got), err)
	}
	a.Forget()
	if err := Zero(a, x, 300*512, size); err != api.OK || len(a.Touched()) != 4096 {
		t.Fatal(err, len(a.Touched()))
	}
	if got, _ := a.Read(0, size); got != strings.Repeat("\x00", size) {
		t.Fatal("not all are 0")
	}
}

// TestTheTableAsItIsThen: a page that is swapped is another one from then on.
func TestTheTableAsItIsThen(t *testing.T) {
	o := twoPages(t)
	o.answers(t, call{"Write", windowBegin + 510, 0, 0, "abcd"}, api.OK)
	if _, err := o.x.Swap(257, 4); err != api.OK {
		t.Fatal(err)
	}
	o.w.row = []pair{{256, 7}, {257, 4}}
	o.answers(t, call{"Write", windowBegin + 511, 0, 0, "xy"}, api.OK)
	if got, _ := o.a.Read(1536, 2); got != "cd" {
		t.Errorf("the page that it was: %q", got)
	}
	o.a.Forget()
	if _, err := o.x.Unmap(256); err != api.OK {
		t.Fatal(err)
	}
	o.w.row = []pair{{257, 4}}
	o.answers(t, call{"Write", windowBegin + 511, 0, 0, "xy"}, api.ErrRange)
	o.answers(t, call{"Zero", windowBegin + 512, 0, 3, ""}, api.OK)
}

// P16.3

// TestTwoTables: two tables without a page in common over one arena never meet.
func TestTwoTables(t *testing.T) {
	src := rand.New(rand.NewSource(16))
	one := newWorld(t, 10*512, pair{256, 1}, pair{257, 6}, pair{258, 3})
	other := table.New()
	for v, p := range map[int]int{256: 2, 257: 0, 258: 7} {
		if err := other.Map(v, p); err != api.OK {
			t.Fatal(err)
		}
	}
	for range 3000 {
		ahead, _ := Read(one.a, other, windowBegin, 1536)
		rest := restOf(t, one)
		one.a.Forget()
		one.step(t, randomCall(src, windowBegin, 3))
		if behind, err := Read(one.a, other, windowBegin, 1536); behind != ahead || err != api.OK {
			t.Fatalf("the other one's bytes are other ones, %v", err)
		}
		if restOf(t, one) != rest {
			t.Fatal("bytes of a page that is nobody's are other ones")
		}
		one.a.Forget()
	}
}

// restOf are the bytes of the pages that no table of TestTwoTables has.
func restOf(t *testing.T, o *world) string {
	t.Helper()
	var all string
	for _, p := range []int{4, 5, 8, 9} {
		text, err := o.a.Read(p*512, 512)
		if err != api.OK {
			t.Fatal(err)
		}
		all += text
	}
	return all
}

// randomCall is one of the four, on about so many local pages from an address on; some are wrong.
func randomCall(src *rand.Rand, addr, pages int) call {
	c := call{name: []string{"Read", "Write", "Zero", "Copy"}[src.Intn(4)]}
	c.to = addr + src.Intn(512*pages+2) - 1
	c.from = addr + src.Intn(512*pages+2) - 1
	// Few bytes, about a page of them, or many.
	c.n = src.Intn([]int{4, 40, 600, 512 * pages}[src.Intn(4)]) - 1
	if c.name == "Write" {
		data := make([]byte, max(c.n, 0))
		src.Read(data)
		c.data, c.n = string(data), 0
	}
	if src.Intn(50) == 0 {
		c.to = wild[src.Intn(len(wild))]
	}
	if c.name == "Copy" && src.Intn(50) == 0 {
		c.from = wild[src.Intn(len(wild))]
	}
	return c
}

func TestWalks(t *testing.T) {
	for k, one := range []struct {
		size, first, pages int
	}{
		{4 * 512, 256, 2}, {4*512 + 77, 6397, 3}, {10 * 512, 300, 6}, {20*512 - 1, 4000, 20}, {7 * 512, 256, 4},
	} {
		t.Run(fmt.Sprint(one), func(t *testing.T) {
			walk(t, rand.New(rand.NewSource(int64(k))), one.size, one.first, one.pages)
		})
	}
}

// walk changes the table now and then, so that local pages lack a page, or have one that isn't within the arena.
func walk(t *testing.T, src *rand.Rand, size, first, pages int) {
	o := newWorld(t, size)
	count := (size + 511) / 512
	good := 0
	for turn := range 4000 {
		if turn%20 == 0 {
			shuffle(t, src, o, first, pages, count)
		}
		if _, err := o.step(t, randomCall(src, first*512, pages)); err == api.OK {
			good++
		}
	}
	if good < 800 {
		t.Errorf("only %d calls were good ones", good)
	}
}

// shuffle gives most local pages another page.
func shuffle(t *testing.T, src *rand.Rand, o *world, first, pages, count int) {
	t.Helper()
	o.x = table.New()
	o.w.row = nil
	order := src.Perm(count + 1)
	for k := range pages {
		if src.Intn(8) == 0 || k >= len(order) {
			continue
		}
		v, p := first+k, order[k]
		if src.Intn(12) == 0 {
			p = greatestPage - k
		}
		if v > 6399 {
			continue
		}
		if err := o.x.Map(v, p); err != api.OK {
			t.Fatal(err)
		}
		o.w.row = append(o.w.row, pair{v, p})
	}
}

// TestEverySequence: short calls about a seam, one behind the other, from the same bytes.
func TestEverySequence(t *testing.T) {
	var calls []call
	for _, addr := range []int{windowBegin + 511, windowBegin + 512, windowBegin + 1023} {
		for _, n := range []int{1, 2} {
			calls = append(calls, call{"Write", addr, 0, 0, "uv"[:n]}, call{"Zero", addr, 0, n, ""})
			for _, from := range []int{windowBegin + 510, windowBegin + 511} {
				calls = append(calls, call{"Copy", addr, from, n, ""})
			}
		}
	}
	var on func(done []call)
	on = func(done []call) {
		if len(done) == 3 {
			o := newWorld(t, 1024, pair{256, 1}, pair{257, 0})
			for _, c := range done {
				o.step(t, c)
			}
			o.step(t, call{"Read", windowBegin + 509, 0, 6, ""})
			return
		}
		for _, c := range calls {
			on(append(slices.Clone(done), c))
		}
	}
	on(nil)
}

// The chapter's examples.

func TestExamples(t *testing.T) {
	o := twoPages(t)
	if err := Write(o.a, o.x, 131072+510, "abcd"); err != api.OK {
		t.Fatal(err)
	}
	if got, err := o.a.Read(4094, 2); got != "ab" || err != api.OK {
		t.Errorf("at 4094: %q, %v", got, err)
	}
	if got, err := o.a.Read(1536, 2); got != "cd" || err != api.OK {
		t.Errorf("at 1536: %q, %v", got, err)
	}
	if got, err := Read(o.a, o.x, 131072+510, 4); got != "abcd" || err != api.OK {
		t.Errorf("read again: %q, %v", got, err)
	}
}
