package line

import (
	"fmt"
	"math"
	"math/rand"
	"slices"
	"testing"

	"garth/api"
)

// below are numbers that never stand in a line; the lower bits of some might.
var below = []int{-1, -2, -5, -511, -512, math.MinInt32, -1 << 32, -1<<32 + 5, math.MinInt + 1, math.MinInt + 5, math.MinInt}

// rising are numbers that may stand in a line, the least and the greatest one among them; some have lower bits in common.
var rising = []int{0, 1, 2, 5, 9, 127, 255, 256, 1023, 65535, 65536, math.MaxInt32, 1 << 31, 1 << 32, 1<<32 + 1, 1<<32 + 5, 1 << 62, math.MaxInt - 1, math.MaxInt}

// plain is a line the plain way.
type plain struct {
	row []int
}

func (p *plain) push(k int) api.Errno {
	if k < 0 {
		return api.ErrArg
	}
	if slices.Contains(p.row, k) {
		return api.ErrThere
	}
	p.row = append(slices.Clone(p.row), k)
	return api.OK
}

func (p *plain) remove(k int) api.Errno {
	at := slices.Index(p.row, k)
	if at < 0 {
		return api.ErrNone
	}
	p.row = slices.Delete(slices.Clone(p.row), at, at+1)
	return api.OK
}

func (p *plain) copied() *plain {
	return &plain{row: slices.Clone(p.row)}
}

// is holds all that a line tells against the row that it should be, and asks twice, since to ask changes nothing.
func is(t *testing.T, l *Line, want ...int) {
	t.Helper()
	for range 2 {
		if all := l.All(); !slices.Equal(all, want) {
			t.Fatalf("All: %v, want %v", all, want)
		}
		if l.Len() != len(want) {
			t.Fatalf("Len: %d, want %d (%v)", l.Len(), len(want), want)
		}
		front := -1
		if len(want) > 0 {
			front = want[0]
		}
		if l.Front() != front {
			t.Fatalf("Front: %d, want %d (%v)", l.Front(), front, want)
		}
		for _, k := range want {
			if !l.Has(k) {
				t.Fatalf("Has(%d): false in %v", k, want)
			}
		}
	}
}

// hasNone asks for numbers that a line, which has those of the row alone, doesn't have.
func hasNone(t *testing.T, l *Line, row []int, asked ...int) {
	t.Helper()
	for _, k := range slices.Concat(asked, below, rising) {
		if l.Has(k) != slices.Contains(row, k) {
			t.Fatalf("Has(%d): %v in %v", k, l.Has(k), row)
		}
	}
}

func push(t *testing.T, l *Line, k int, want api.Errno) {
	t.Helper()
	if err := l.Push(k); err != want {
		t.Fatalf("Push(%d): %v, want %v", k, err, want)
	}
}

func remove(t *testing.T, l *Line, k int, want api.Errno) {
	t.Helper()
	if err := l.Remove(k); err != want {
		t.Fatalf("Remove(%d): %v, want %v", k, err, want)
	}
}

// filled is a line of these numbers.
func filled(t *testing.T, row ...int) *Line {
	t.Helper()
	l := New()
	if l == nil {
		t.Fatal("New: nil")
	}
	for _, k := range row {
		push(t, l, k, api.OK)
	}
	is(t, l, row...)
	return l
}

// many are n numbers, each once, in a jumble that is the same whenever it is asked for.
func many(n int) []int {
	return rand.New(rand.NewSource(int64(n))).Perm(n)
}

// rows are lines of no number, of one, of two and of many.
func rows() [][]int {
	return [][]int{
		nil, {0}, {1}, {7}, {math.MaxInt}, {0, 1}, {1, 0}, {0, math.MaxInt}, {math.MaxInt, 0}, {9, 4},
		{5, 2, 9}, {3, 2, 1, 0}, {0, 1, 2, 3, 4}, slices.Clone(rising), many(17), many(128), many(1000),
	}
}

// P13.1

func TestNewHasNoNumber(t *testing.T) {
	l := filled(t)
	hasNone(t, l, nil)
}

func TestPushBehindAllOthers(t *testing.T) {
	for _, row := range rows() {
		l := New()
		for i, k := range row {
			push(t, l, k, api.OK)
			is(t, l, row[:i+1]...)
		}
		hasNone(t, l, row)
	}
}

func TestPushOfNumbersBelowZero(t *testing.T) {
	for _, row := range rows() {
		l := filled(t, row...)
		for _, k := range below {
			push(t, l, k, api.ErrArg)
			is(t, l, row...)
		}
		hasNone(t, l, row)
	}
}

func TestPushOfWhatStandsThere(t *testing.T) {
	for _, row := range rows() {
		l := filled(t, row...)
		for _, k := range row {
			push(t, l, k, api.ErrThere)
			push(t, l, k, api.ErrThere)
		}
		is(t, l, row...)
		hasNone(t, l, row)
	}
}

func TestPushOfLeastAndGreatest(t *testing.T) {
	l := New()
	for _, k := range []int{math.MaxInt, 0, 1} {
		push(t, l, k, api.OK)
		push(t, l, k, api.ErrThere)
	}
	push(t, l, -1, api.ErrArg)
	push(t, l, math.MinInt, api.ErrArg)
	is(t, l, math.MaxInt, 0, 1)
}

func TestRemoveOfWhatDoesNotStandThere(t *testing.T) {
	for _, row := range rows() {
		l := filled(t, row...)
		for _, k := range slices.Concat(below, rising, []int{len(row), len(row) + 1}) {
			if !slices.Contains(row, k) {
				remove(t, l, k, api.ErrNone)
				is(t, l, row...)
			}
		}
	}
}

// without is a row that lacks the one at that place.
func without(row []int, at int) []int {
	return slices.Delete(slices.Clone(row), at, at+1)
}

func TestRemoveOfEachOne(t *testing.T) {
	for _, row := range rows() {
		for at, k := range row {
			if len(row) > 200 && at%97 != 0 && at != len(row)-1 {
				continue
			}
			l, left := filled(t, row...), without(row, at)
			remove(t, l, k, api.OK)
			is(t, l, left...)
			hasNone(t, l, left, k)

			remove(t, l, k, api.ErrNone)
			is(t, l, left...)
		}
	}
}

func TestPushBehindEachRemove(t *testing.T) {
	for _, row := range rows() {
		for at, k := range row {
			if len(row) > 200 && at%97 != 0 && at != len(row)-1 {
				continue
			}
			l, left := filled(t, row...), without(row, at)
			fresh := 123456
			remove(t, l, k, api.OK)
			push(t, l, fresh, api.OK)
			is(t, l, append(left, fresh)...)
			push(t, l, k, api.OK)
			is(t, l, append(left, fresh, k)...)

			// The other way round: the one that was removed stands last at once.
			l, left = filled(t, row...), without(row, at)
			remove(t, l, k, api.OK)
			push(t, l, k, api.OK)
			push(t, l, k, api.ErrThere)
			is(t, l, append(left, k)...)
			push(t, l, fresh, api.OK)
			is(t, l, append(left, k, fresh)...)
		}
	}
}

func TestRemoveOfTwo(t *testing.T) {
	row := []int{4, 0, 7, 2, 9}
	for _, a := range row {
		for _, b := range row {
			if a == b {
				continue
			}
			l, left := filled(t, row...), without(row, slices.Index(row, a))
			left = without(left, slices.Index(left, b))
			remove(t, l, a, api.OK)
			remove(t, l, b, api.OK)
			is(t, l, left...)
			hasNone(t, l, left, a, b)
			push(t, l, 1, api.OK)
			push(t, l, b, api.OK)
			is(t, l, append(left, 1, b)...)
		}
	}
}

func TestRemoveOfTheOnlyOne(t *testing.T) {
	for _, k := range rising {
		l := filled(t, k)
		for range 3 {
			remove(t, l, k, api.OK)
			is(t, l)
			hasNone(t, l, nil, k)
			remove(t, l, k, api.ErrNone)
			push(t, l, k, api.OK)
			is(t, l, k)
		}
	}
}

func TestEmptiedAndFilledAgain(t *testing.T) {
	for _, row := range rows() {
		l := filled(t, row...)
		for _, again := range rows() {
			for _, k := range l.All() {
				remove(t, l, k, api.OK)
			}
			is(t, l)
			for _, k := range below[:2] {
				push(t, l, k, api.ErrArg)
				remove(t, l, k, api.ErrNone)
			}
			for _, k := range again {
				push(t, l, k, api.OK)
			}
			is(t, l, again...)
			hasNone(t, l, again)
		}
	}
}

func TestEmptiedFromTheEnd(t *testing.T) {
	for _, row := range rows() {
		l := filled(t, row...)
		for n := len(row) - 1; n >= 0; n-- {
			remove(t, l, row[n], api.OK)
			is(t, l, row[:n]...)
		}
		push(t, l, 3, api.OK)
		is(t, l, 3)
	}
}

func TestEmptiedFromAmid(t *testing.T) {
	row := many(101)
	l, left := filled(t, row...), slices.Clone(row)
	for len(left) > 0 {
		at := len(left) / 2
		remove(t, l, left[at], api.OK)
		left = without(left, at)
		is(t, l, left...)
	}
}

// P13.2

func TestFrontStepByStep(t *testing.T) {
	l := New()
	front := func(want int) {
		t.Helper()
		if l.Front() != want {
			t.Fatalf("Front: %d, want %d", l.Front(), want)
		}
	}
	front(-1)
	l.Push(-1)
	front(-1)
	l.Push(0)
	front(0)
	l.Push(6)
	front(0)
	l.Remove(0)
	front(6)
	l.Push(0)
	front(6)
	l.Remove(0)
	front(6)
	l.Remove(6)
	front(-1)
	l.Push(math.MaxInt)
	front(math.MaxInt)
}

func TestHasAndLenStepByStep(t *testing.T) {
	l := New()
	for n, k := range rising {
		if l.Has(k) || l.Len() != n {
			t.Fatalf("ahead of Push(%d): %v, %d", k, l.Has(k), l.Len())
		}
		push(t, l, k, api.OK)
		if !l.Has(k) || l.Len() != n+1 {
			t.Fatalf("behind Push(%d): %v, %d", k, l.Has(k), l.Len())
		}
		hasNone(t, l, rising[:n+1])
	}
	for n, k := range rising {
		remove(t, l, k, api.OK)
		if l.Has(k) || l.Len() != len(rising)-n-1 {
			t.Fatalf("behind Remove(%d): %v, %d", k, l.Has(k), l.Len())
		}
		hasNone(t, l, rising[n+1:])
	}
}

func TestHasPutsNothingThere(t *testing.T) {
	for _, row := range rows() {
		l := filled(t, row...)
		hasNone(t, l, row, len(row), len(row)+1)
		is(t, l, row...)
		for _, k := range rising {
			if !slices.Contains(row, k) {
				remove(t, l, k, api.ErrNone)
			}
		}
		is(t, l, row...)
	}
}

func TestAllIsNewMemory(t *testing.T) {
	for _, row := range rows() {
		l := filled(t, row...)
		one, two := l.All(), l.All()
		for i := range one {
			one[i] = -7
		}
		_ = append(one[:0], 88, 99)
		spare := one[:cap(one)]
		for i := range spare {
			spare[i] = 44
		}
		if !slices.Equal(two, row) {
			t.Fatalf("All of which another one was changed: %v, want %v", two, row)
		}
		is(t, l, row...)
	}
}

func TestAllStaysAsItWas(t *testing.T) {
	for _, row := range rows() {
		l := filled(t, row...)
		all := l.All()
		push(t, l, 123456, api.OK)
		for _, k := range row {
			remove(t, l, k, api.OK)
		}
		push(t, l, 77777, api.OK)
		if !slices.Equal(all, row) {
			t.Fatalf("All behind later calls: %v, want %v", all, row)
		}
		is(t, l, 123456, 77777)
	}
}

// P13.3

func TestCopyOfWhichEitherGoesOn(t *testing.T) {
	for _, row := range rows() {
		one := filled(t, row...)
		two := one.Copy()
		if two == nil || two == one {
			t.Fatal("Copy is none, or the same one")
		}
		is(t, two, row...)

		push(t, one, 123456, api.OK)
		is(t, two, row...)
		push(t, two, 77777, api.OK)
		is(t, one, append(slices.Clone(row), 123456)...)
		is(t, two, append(slices.Clone(row), 77777)...)
		hasNone(t, one, one.All(), 77777)
		hasNone(t, two, two.All(), 123456)

		for _, k := range row {
			remove(t, one, k, api.OK)
		}
		is(t, one, 123456)
		is(t, two, append(slices.Clone(row), 77777)...)
		for _, k := range two.All() {
			remove(t, two, k, api.OK)
		}
		is(t, one, 123456)
		is(t, two)
	}
}

func TestCopyOfWhichTheFirstIsRemoved(t *testing.T) {
	one := filled(t, 5, 2, 9)
	two := one.Copy()
	remove(t, two, 5, api.OK)
	is(t, one, 5, 2, 9)
	remove(t, one, 9, api.OK)
	is(t, two, 2, 9)
	push(t, two, 5, api.OK)
	push(t, one, 4, api.OK)
	is(t, one, 5, 2, 4)
	is(t, two, 2, 9, 5)
}

func TestCopyOfEmptyLine(t *testing.T) {
	emptied := filled(t, 3, 4)
	remove(t, emptied, 3, api.OK)
	remove(t, emptied, 4, api.OK)
	for _, one := range []*Line{New(), emptied, {}} {
		two, three := one.Copy(), one.Copy()
		is(t, two)
		push(t, two, 8, api.OK)
		is(t, one)
		push(t, one, 6, api.OK)
		push(t, one, 0, api.OK)
		is(t, two, 8)
		is(t, one, 6, 0)
		is(t, three)
	}
}

func TestCopyOfCopy(t *testing.T) {
	one := filled(t, 1, 2)
	two := one.Copy()
	push(t, two, 3, api.OK)
	three := two.Copy()
	remove(t, three, 1, api.OK)
	is(t, one, 1, 2)
	is(t, two, 1, 2, 3)
	is(t, three, 2, 3)
}

func TestNil(t *testing.T) {
	var l *Line
	for _, k := range slices.Concat(below, rising) {
		push(t, l, k, api.ErrNil)
		remove(t, l, k, api.ErrNil)
		if l.Has(k) {
			t.Fatalf("Has(%d)", k)
		}
	}
	is(t, l)
	if c := l.Copy(); c != nil {
		t.Fatal(c)
	}
}

func TestLineThatNobodyMadeIsEmpty(t *testing.T) {
	is(t, &Line{})
	hasNone(t, &Line{}, nil)
	remove(t, &Line{}, 0, api.ErrNone)
	l := &Line{}
	push(t, l, 4, api.OK)
	push(t, l, 0, api.OK)
	is(t, l, 4, 0)
}

func TestTwoLinesNeverMeet(t *testing.T) {
	one, two := New(), New()
	push(t, one, 5, api.OK)
	is(t, two)
	push(t, two, 6, api.OK)
	push(t, two, 5, api.OK)
	remove(t, one, 5, api.OK)
	is(t, one)
	is(t, two, 6, 5)
}

// TestLinesThatShareAMap: nothing is promised of what two lines tell that were copied as values, but that their calls end.
func TestLinesThatShareAMap(t *testing.T) {
	for seed := range 300 {
		src := rand.New(rand.NewSource(int64(seed)))
		one := filled(t, many(src.Intn(5))...)
		two := *one
		for range 40 {
			l, k := one, src.Intn(5)
			if src.Intn(2) == 0 {
				l = &two
			}
			if src.Intn(2) == 0 {
				l.Push(k)
			} else {
				l.Remove(k)
			}
			if one.Len() != len(one.All()) || two.Len() != len(two.All()) {
				t.Fatal(one.All(), two.All())
			}
		}
	}
}

// P13.4

// drained are the numbers of a line as they come who removes the first one again and again.
func drained(t *testing.T, l *Line) []int {
	t.Helper()
	var out []int
	for n := l.Len(); n > 0; n-- {
		k := l.Front()
		out = append(out, k)
		remove(t, l, k, api.OK)
	}
	is(t, l)
	remove(t, l, l.Front(), api.ErrNone)
	return out
}

func TestFirstOnesComeInTheOrderOfPushes(t *testing.T) {
	for _, row := range append(rows(), many(5000)) {
		l := filled(t, row...)
		for range 2 {
			if out := drained(t, l); !slices.Equal(out, row) {
				t.Fatalf("%v came, want %v", out, row)
			}
			for _, k := range row {
				push(t, l, k, api.OK)
			}
		}
	}
}

func TestFirstOnesComeInTheirOrderWhileOthersArePushed(t *testing.T) {
	l := New()
	next, pushed := 0, 0
	for range 3000 {
		for range 2 {
			push(t, l, pushed, api.OK)
			pushed++
		}
		if l.Front() != next {
			t.Fatalf("Front: %d, want %d", l.Front(), next)
		}
		remove(t, l, next, api.OK)
		next++
	}
	for ; next < pushed; next++ {
		if l.Front() != next {
			t.Fatalf("Front: %d, want %d", l.Front(), next)
		}
		remove(t, l, next, api.OK)
	}
	is(t, l)
}

func TestFirstOneServesAndStandsLast(t *testing.T) {
	row := many(50)
	l := filled(t, row...)
	for turn := range 130 {
		k := row[turn%len(row)]
		if l.Front() != k {
			t.Fatalf("turn %d: Front: %d, want %d", turn, l.Front(), k)
		}
		remove(t, l, k, api.OK)
		push(t, l, k, api.OK)
	}
	is(t, l, slices.Concat(row[30:], row[:30])...)
}

// All of them, held against a plain row.

func step(t *testing.T, l *Line, p *plain, pushed bool, k int) {
	t.Helper()
	name, got, want := "Push", api.OK, api.OK
	if pushed {
		got, want = l.Push(k), p.push(k)
	} else {
		name, got, want = "Remove", l.Remove(k), p.remove(k)
	}
	if got != want {
		t.Fatalf("%s(%d): %v, want %v (%v)", name, k, got, want, p.row)
	}
	is(t, l, p.row...)
	for _, k := range []int{k, -1, 0, 1, math.MinInt, math.MaxInt} {
		if l.Has(k) != slices.Contains(p.row, k) {
			t.Fatalf("Has(%d): %v in %v", k, l.Has(k), p.row)
		}
	}
}

// TestEverySequence goes on from a copy at each step, so a copy that knows of the other one shows too.
func TestEverySequence(t *testing.T) {
	numbers := []int{-1, 0, 1, math.MaxInt}
	var on func(l *Line, p *plain, left int)
	on = func(l *Line, p *plain, left int) {
		if left == 0 {
			return
		}
		for _, k := range numbers {
			for _, pushed := range []bool{true, false} {
				next, plainNext := l.Copy(), p.copied()
				step(t, next, plainNext, pushed, k)
				on(next, plainNext, left-1)
				is(t, l, p.row...)
			}
		}
	}
	on(New(), &plain{}, 6)
}

func TestWalks(t *testing.T) {
	for _, numbers := range []int{1, 2, 3, 10, 100, 400} {
		t.Run(fmt.Sprint(numbers), func(t *testing.T) {
			src := rand.New(rand.NewSource(int64(numbers)))
			l, p := New(), &plain{}
			for turn := range 6000 {
				// Seasons of many pushes and of many removes, so that it fills and empties.
				pushed := src.Intn(10) < 3+4*(turn/1000%2)
				k := src.Intn(numbers+2) - 1
				step(t, l, p, pushed, k)
				if src.Intn(40) == 0 {
					l, p = swapped(t, src, l, p)
				}
			}
		})
	}
}

// swapped goes on with one of a line and its copy, and leaves the other one in disorder.
func swapped(t *testing.T, src *rand.Rand, l *Line, p *plain) (*Line, *plain) {
	t.Helper()
	c, q := l.Copy(), p.copied()
	if src.Intn(2) == 0 {
		l, p, c, q = c, q, l, p
	}
	for range 3 {
		step(t, c, q, src.Intn(2) == 0, src.Intn(6))
		is(t, l, p.row...)
	}
	return l, p
}

func TestWalksOfWideNumbers(t *testing.T) {
	src := rand.New(rand.NewSource(13))
	l, p := New(), &plain{}
	for range 5000 {
		k := int(src.Uint64())
		switch src.Intn(4) {
		case 0:
			k = rising[src.Intn(len(rising))]
		case 1:
			k = below[src.Intn(len(below))]
		case 2:
			if len(p.row) > 0 {
				k = p.row[src.Intn(len(p.row))]
			}
		}
		step(t, l, p, src.Intn(2) == 0, k)
	}
}

// The chapter's examples.

func TestExamples(t *testing.T) {
	l := New()
	push(t, l, 5, api.OK)
	push(t, l, 2, api.OK)
	push(t, l, 9, api.OK)
	push(t, l, 2, api.ErrThere)
	is(t, l, 5, 2, 9)
	remove(t, l, 2, api.OK)
	is(t, l, 5, 9)
	if l.Front() != 5 {
		t.Fatal(l.Front())
	}
}
