package shelf

import (
	"math"
	"testing"

	"garth/api"
)

// beside are numbers that no shelf of size n has.
func beside(n int) []int {
	return []int{-1, -2, -63, -64, -65, -maxSize, math.MinInt, n, n + 1, n + 63, n + 64, n + 65, maxSize, maxSize + 1, math.MaxInt}
}

func fresh(t *testing.T, n int) *Shelf {
	t.Helper()
	s, err := New(n)
	if err != api.OK || s == nil {
		t.Fatalf("New(%d): %v, %v", n, s, err)
	}
	return s
}

// is holds all that a shelf tells against which of its numbers are taken.
func is(t *testing.T, s *Shelf, taken []bool) {
	t.Helper()
	free, lowest := 0, -1
	for k, there := range taken {
		if s.Taken(k) != there {
			t.Fatalf("size %d: Taken(%d): %v", len(taken), k, s.Taken(k))
		}
		if !there {
			free++
		}
		if !there && lowest < 0 {
			lowest = k
		}
	}
	if s.Size() != len(taken) || s.Free() != free || s.Lowest() != lowest {
		t.Fatalf("size %d, free %d, lowest %d; want %d, %d, %d", s.Size(), s.Free(), s.Lowest(), len(taken), free, lowest)
	}
	for _, k := range beside(len(taken)) {
		if s.Taken(k) {
			t.Fatalf("size %d: Taken(%d)", len(taken), k)
		}
	}
}

func fill(t *testing.T, s *Shelf) {
	t.Helper()
	for k := range s.Size() {
		if got, err := s.Take(); got != k || err != api.OK {
			t.Fatalf("size %d: Take: %d, %v; want %d", s.Size(), got, err, k)
		}
	}
}

// P2.1

func TestNewMakesAllFree(t *testing.T) {
	for _, n := range []int{0, 1, 2, 3, 63, 64, 65, 127, 128, 129, 130, 4160, maxSize - 1, maxSize} {
		is(t, fresh(t, n), make([]bool, n))
	}
}

func TestNewRefusesOtherSizes(t *testing.T) {
	for _, n := range []int{-1, -2, -64, math.MinInt, 1<<16 + 1, 1<<16 + 2, 1 << 17, math.MaxInt} {
		if s, err := New(n); s != nil || err != api.ErrArg {
			t.Errorf("New(%d): %v, %v", n, s, err)
		}
	}
}

func TestEmptyShelfHasNothing(t *testing.T) {
	s := fresh(t, 0)
	if s.Lowest() != -1 || s.Free() != 0 || s.Size() != 0 || s.Taken(0) {
		t.Error(s.Lowest(), s.Free(), s.Size(), s.Taken(0))
	}
	if k, err := s.Take(); k != 0 || err != api.ErrNone {
		t.Error(k, err)
	}
	if a, b := s.TakeAt(0), s.Give(0); a != api.ErrArg || b != api.ErrArg {
		t.Error(a, b)
	}
}

func TestFullShelfTellsNone(t *testing.T) {
	for _, n := range []int{1, 63, 64, 65, 128, 200, maxSize - 1, maxSize} {
		s := fresh(t, n)
		fill(t, s)
		if s.Lowest() != -1 || s.Free() != 0 || s.Size() != n {
			t.Errorf("size %d: lowest %d, free %d, size %d", n, s.Lowest(), s.Free(), s.Size())
		}
		if !s.Taken(0) || !s.Taken(n-1) || s.Taken(n) || s.Taken(-1) {
			t.Errorf("size %d: taken %v %v %v %v", n, s.Taken(0), s.Taken(n-1), s.Taken(n), s.Taken(-1))
		}
	}
}

func TestLowestPassesTakenWords(t *testing.T) {
	s := fresh(t, 300)
	fill(t, s)
	for _, k := range []int{299, 256, 255, 130, 128, 127, 64, 63, 1, 0} {
		if err := s.Give(k); err != api.OK || s.Lowest() != k {
			t.Fatalf("Give(%d): %v, lowest %d", k, err, s.Lowest())
		}
	}
}

// P2.2

func TestTakeOfFullShelf(t *testing.T) {
	for _, n := range []int{1, 3, 64, 65, maxSize} {
		s := fresh(t, n)
		fill(t, s)
		for range 2 {
			if k, err := s.Take(); k != 0 || err != api.ErrNone {
				t.Fatalf("size %d: Take: %d, %v", n, k, err)
			}
		}
		if s.Free() != 0 || s.Lowest() != -1 {
			t.Fatalf("size %d: free %d, lowest %d", n, s.Free(), s.Lowest())
		}
	}
}

func TestTakeAtTakesThatOne(t *testing.T) {
	for _, n := range []int{1, 2, 63, 64, 65, 129, maxSize} {
		for _, k := range []int{0, n / 2, n - 1} {
			s := fresh(t, n)
			want := make([]bool, n)
			want[k] = true
			if err := s.TakeAt(k); err != api.OK {
				t.Fatalf("size %d: TakeAt(%d): %v", n, k, err)
			}
			is(t, s, want)
			if err := s.TakeAt(k); err != api.ErrThere {
				t.Fatalf("size %d: TakeAt(%d) again: %v", n, k, err)
			}
			is(t, s, want)
		}
	}
}

func TestGiveFreesThatOne(t *testing.T) {
	for _, n := range []int{1, 2, 63, 64, 65, 129, maxSize} {
		s := fresh(t, n)
		fill(t, s)
		k := n - 1
		if err := s.Give(k); err != api.OK || s.Taken(k) || s.Free() != 1 || s.Lowest() != k {
			t.Fatalf("size %d: Give(%d): %v, free %d, lowest %d", n, k, err, s.Free(), s.Lowest())
		}
		if err := s.Give(k); err != api.ErrNone || s.Taken(k) || s.Free() != 1 || s.Lowest() != k {
			t.Fatalf("size %d: Give(%d) again: %v, free %d, lowest %d", n, k, err, s.Free(), s.Lowest())
		}
		if got, err := s.Take(); got != k || err != api.OK {
			t.Fatalf("size %d: Take: %d, %v", n, got, err)
		}
	}
}

func TestGiveOfFreshOnes(t *testing.T) {
	s := fresh(t, 70)
	for k := range 70 {
		if err := s.Give(k); err != api.ErrNone {
			t.Fatalf("Give(%d): %v", k, err)
		}
	}
	is(t, s, make([]bool, 70))
}

func TestNumbersThatAreNone(t *testing.T) {
	for _, n := range []int{0, 1, 3, 63, 64, 65, maxSize - 1, maxSize} {
		s := fresh(t, n)
		want := make([]bool, n)
		for k := 0; k < n; k += 2 {
			want[k] = true
			s.TakeAt(k)
		}
		for _, k := range beside(n) {
			if a, b, c := s.TakeAt(k), s.Give(k), s.Taken(k); a != api.ErrArg || b != api.ErrArg || c {
				t.Fatalf("size %d, number %d: %v, %v, %v", n, k, a, b, c)
			}
		}
		is(t, s, want)
	}
}

func TestTakePassesOverWhatTakeAtTook(t *testing.T) {
	s := fresh(t, 130)
	for k := range 130 {
		if k%3 != 2 {
			s.TakeAt(k)
		}
	}
	for k := 2; k < 130; k += 3 {
		if got, err := s.Take(); got != k || err != api.OK {
			t.Fatalf("Take: %d, %v; want %d", got, err, k)
		}
	}
	if k, err := s.Take(); k != 0 || err != api.ErrNone {
		t.Fatal(k, err)
	}
}

// TestAgainstRowOfBools runs calls in a fixed jumble beside a row of bools that does the same the plain way.
func TestAgainstRowOfBools(t *testing.T) {
	for _, n := range []int{0, 1, 5, 64, 65, 150} {
		s, row, seed := fresh(t, n), make([]bool, n), uint32(n+1)
		for range 3000 {
			seed = seed*1664525 + 1013904223
			k := int(seed>>8)%(n+4) - 2
			step(t, s, row, int(seed>>24)%3, k)
			is(t, s, row)
		}
	}
}

func step(t *testing.T, s *Shelf, row []bool, kind, k int) {
	t.Helper()
	there := k >= 0 && k < len(row)
	var got, want api.Errno
	switch {
	case kind == 0:
		stepTake(t, s, row)
	case !there:
		got, want = s.TakeAt(k), api.ErrArg
		if kind == 2 {
			got = s.Give(k)
		}
	case kind == 1:
		if row[k] {
			want = api.ErrThere
		}
		got, row[k] = s.TakeAt(k), true
	default:
		if !row[k] {
			want = api.ErrNone
		}
		got, row[k] = s.Give(k), false
	}
	if got != want {
		t.Fatalf("size %d, kind %d, number %d: %v, want %v", len(row), kind, k, got, want)
	}
}

func stepTake(t *testing.T, s *Shelf, row []bool) {
	t.Helper()
	want, wantErr := 0, api.ErrNone
	for k := range row {
		if !row[k] {
			want, wantErr, row[k] = k, api.OK, true
			break
		}
	}
	if got, err := s.Take(); got != want || err != wantErr {
		t.Fatalf("size %d: Take: %d, %v; want %d, %v", len(row), got, err, want, wantErr)
	}
}

// P2.3

func TestCopiesKnowNothingOfEachOther(t *testing.T) {
	for _, n := range []int{3, 64, 100, maxSize} {
		s := fresh(t, n)
		s.TakeAt(0)
		s.TakeAt(n - 1)
		first := make([]bool, n)
		first[0], first[n-1] = true, true
		c := s.Copy()
		is(t, c, first)

		s.Take()
		is(t, c, first)
		s.Give(0)
		is(t, c, first)

		second := make([]bool, n)
		second[1], second[n-1] = true, true
		is(t, s, second)
		c.Give(n - 1)
		c.TakeAt(1)
		is(t, s, second)
		first[1], first[n-1] = true, false
		is(t, c, first)
	}
}

func TestCopyOfEmptyShelf(t *testing.T) {
	s := fresh(t, 0)
	c := s.Copy()
	if c == nil || c == s {
		t.Fatal(c)
	}
	is(t, c, nil)
}

func TestNilShelf(t *testing.T) {
	var s *Shelf
	if k, err := s.Take(); k != 0 || err != api.ErrNil {
		t.Error(k, err)
	}
	for _, k := range append(beside(3), 0, 1, 2) {
		if a, b, c := s.TakeAt(k), s.Give(k), s.Taken(k); a != api.ErrNil || b != api.ErrNil || c {
			t.Errorf("number %d: %v, %v, %v", k, a, b, c)
		}
	}
	if s.Lowest() != -1 || s.Free() != 0 || s.Size() != 0 || s.Copy() != nil {
		t.Error(s.Lowest(), s.Free(), s.Size(), s.Copy())
	}
}

func TestShelfThatNobodyMadeIsEmpty(t *testing.T) {
	is(t, &Shelf{}, nil)
	is(t, new(Shelf).Copy(), nil)
	if k, err := new(Shelf).Take(); k != 0 || err != api.ErrNone {
		t.Error(k, err)
	}
}

func TestTwoShelvesNeverMeet(t *testing.T) {
	a, b := fresh(t, 66), fresh(t, 66)
	fill(t, a)
	is(t, b, make([]bool, 66))
}

// P2.4

func TestTakenThenGivenLeavesAllAsItWas(t *testing.T) {
	s := fresh(t, 200)
	was := make([]bool, 200)
	for _, k := range []int{0, 1, 5, 63, 64, 130, 199} {
		was[k] = true
		s.TakeAt(k)
	}
	var took []int
	for range 150 {
		k, err := s.Take()
		if err != api.OK {
			t.Fatal(err)
		}
		took = append(took, k)
	}
	for i := range took {
		// 150 and 7 have no divisor in common: each one is given back once, out of its order.
		if err := s.Give(took[i*7%150]); err != api.OK {
			t.Fatal(err)
		}
	}
	is(t, s, was)
	for k := range 200 {
		if !was[k] && (s.TakeAt(k) != api.OK || s.Give(k) != api.OK) {
			t.Fatal(k)
		}
	}
	is(t, s, was)
}

func TestFreshOneGivesNumbersInOrder(t *testing.T) {
	for _, n := range []int{1, 3, 63, 64, 65, 130, maxSize} {
		s := fresh(t, n)
		fill(t, s)
		for k := range n {
			if err := s.Give(k); err != api.OK {
				t.Fatalf("size %d: Give(%d): %v", n, k, err)
			}
		}
		is(t, s, make([]bool, n))
		fill(t, s)
	}
}

// The chapter's examples.

func TestExamples(t *testing.T) {
	s := fresh(t, 3)
	take := func(want int, wantErr api.Errno) {
		t.Helper()
		if k, err := s.Take(); k != want || err != wantErr {
			t.Fatalf("Take: %d, %v; want %d, %v", k, err, want, wantErr)
		}
	}
	take(0, api.OK)
	take(1, api.OK)
	if err := s.Give(0); err != api.OK {
		t.Fatal(err)
	}
	take(0, api.OK)
	take(2, api.OK)
	take(0, api.ErrNone)
	if s.Lowest() != -1 {
		t.Fatal(s.Lowest())
	}
}
