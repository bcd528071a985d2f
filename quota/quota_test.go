package quota

import (
	"math"
	"math/rand"
	"testing"

	"garth/api"
	"garth/sum"
)

// bound is the greatest number of bytes, and of pages, that a sum may have.
const bound = 1 << 40

// edges are the parts of which every sum is told: with them a part can be just what another one is, one more, one less, and more than a sum may have when they are added.
var edges = []int{0, 1, 2, bound / 2, bound - 1, bound}

// wrongParts are floats that no part of a sum may be.
var wrongParts = []float64{
	-1, -0.5, -512, -bound, -math.SmallestNonzeroFloat64, -math.MaxFloat64, math.Inf(-1),
	0.5, 1.5, bound - 0.5, math.SmallestNonzeroFloat64, math.Nextafter(1, 0), math.Nextafter(bound, 0),
	math.Nextafter(bound, math.Inf(1)), bound + 1, 2 * bound, 1 << 53, 1 << 63, math.MaxFloat64, math.Inf(1), math.NaN(),
}

// wrongSums are complex numbers that are no right sum: in one part, in the other one, in both.
func wrongSums() []sum.Sum {
	var all []sum.Sum
	for _, x := range wrongParts {
		for _, n := range []float64{0, 1, 100, bound} {
			all = append(all, sum.Sum(complex(x, n)), sum.Sum(complex(n, x)))
		}
		all = append(all, sum.Sum(complex(x, x)), sum.Sum(complex(x, -1)), sum.Sum(complex(0.5, x)))
	}
	return all
}

// state is all that a quota tells.
type state struct{ limit, charged, reserved sum.Sum }

func stateOf(q *Quota) state {
	return state{q.Limit(), q.Charged(), q.Reserved()}
}

// of makes a sum without package sum's help.
func of(bytes, pages int) sum.Sum {
	return sum.Sum(complex(float64(bytes), float64(pages)))
}

// brought makes a quota by its calls and brings it into that state.
func brought(t *testing.T, s state) *Quota {
	t.Helper()
	q, err := New(s.limit)
	if err != api.OK {
		t.Fatalf("New(%v): %d", s.limit, err)
	}
	must(t, q.Reserve(s.charged), q.Commit(s.charged), q.Reserve(s.reserved))
	if got := stateOf(q); got != s {
		t.Fatalf("brought to %v, wanted %v", got, s)
	}
	return q
}

func must(t *testing.T, errs ...api.Errno) {
	t.Helper()
	for i, err := range errs {
		if err != api.OK {
			t.Fatalf("call %d: %d", i, err)
		}
	}
}

// The calls that are handed a sum.
const (
	reserve = iota
	commit
	cancel
	refund
	resize
	calls
)

var names = [calls]string{"Reserve", "Commit", "Cancel", "Refund", "Resize"}

func call(q *Quota, which int, s sum.Sum) api.Errno {
	switch which {
	case reserve:
		return q.Reserve(s)
	case commit:
		return q.Commit(s)
	case cancel:
		return q.Cancel(s)
	case refund:
		return q.Refund(s)
	}
	return q.Resize(s)
}

// part is one part of a quota, bytes or pages, in whole numbers.
type part struct{ limit, charged, reserved int }

// after reckons one part by itself: what a call makes of it, and whether it may be.
func (p part) after(which, n int) (part, bool) {
	switch which {
	case reserve:
		return part{p.limit, p.charged, p.reserved + n}, p.charged+p.reserved+n <= p.limit
	case commit:
		return part{p.limit, p.charged + n, p.reserved - n}, n <= p.reserved
	case cancel:
		return part{p.limit, p.charged, p.reserved - n}, n <= p.reserved
	case refund:
		return part{p.limit, p.charged - n, p.reserved}, n <= p.charged
	}
	return part{n, p.charged, p.reserved}, p.charged+p.reserved <= n
}

func both(bytes, pages part) state {
	return state{of(bytes.limit, pages.limit), of(bytes.charged, pages.charged), of(bytes.reserved, pages.reserved)}
}

// refusal is what a call answers a right sum that it refuses.
func refusal(which int) api.Errno {
	if which == reserve || which == resize {
		return api.ErrQuota
	}
	return api.ErrArg
}

// edgeParts are all parts, made of edges, that a quota may have.
func edgeParts() []part {
	var all []part
	for _, limit := range edges {
		for _, charged := range edges {
			for _, reserved := range edges {
				if charged+reserved <= limit {
					all = append(all, part{limit, charged, reserved})
				}
			}
		}
	}
	return all
}

// edgeStates are those of which neither part hides what the other one does: all bytes with some pages, and the other way round.
func edgeStates() []state {
	var all []state
	for _, p := range edgeParts() {
		for _, q := range []part{{0, 0, 0}, {2, 1, 1}, {2, 0, 1}, {bound, bound / 2, bound / 2}, {bound, 1, 1}} {
			all = append(all, both(p, q), both(q, p))
		}
	}
	return all
}

// P6.1

func TestNewOfRightLimits(t *testing.T) {
	for _, bytes := range append([]int{100, 512, 65536}, edges...) {
		for _, pages := range append([]int{5, 9, 4096}, edges...) {
			limit := of(bytes, pages)
			q, err := New(limit)
			if q == nil || err != api.OK {
				t.Fatalf("New(%v): %v, %d", limit, q, err)
			}
			if got := stateOf(q); got != (state{limit, 0, 0}) {
				t.Errorf("New(%v): %v", limit, got)
			}
		}
	}
}

func TestNewOfWrongLimits(t *testing.T) {
	for _, limit := range wrongSums() {
		if q, err := New(limit); q != nil || err != api.ErrArg {
			t.Errorf("New(%v): %v, %d", limit, q, err)
		}
	}
}

func TestTwoNewOnesKnowNothingOfEachOther(t *testing.T) {
	q, r := brought(t, state{of(100, 1), 0, 0}), brought(t, state{of(100, 1), 0, 0})
	must(t, q.Reserve(of(60, 1)), q.Commit(of(30, 1)), q.Resize(of(60, 1)))
	if got := stateOf(r); got != (state{of(100, 1), 0, 0}) {
		t.Errorf("the other one: %v", got)
	}
}

func TestLimitChargedReserved(t *testing.T) {
	q := brought(t, state{of(1000, 20), of(300, 4), of(50, 6)})
	if q.Limit() != of(1000, 20) || q.Charged() != of(300, 4) || q.Reserved() != of(50, 6) {
		t.Errorf("%v", stateOf(q))
	}
	if q.Limit().Bytes() != 1000 || q.Charged().Pages() != 4 || q.Reserved().Bytes() != 50 {
		t.Errorf("%v", stateOf(q))
	}
}

// P6.2

// Every state and every right sum whose parts are edges, in each call, held against whole numbers, part by part.
func TestEveryCallAtTheEdges(t *testing.T) {
	parts := edgeParts()
	for _, bytes := range parts {
		for _, pages := range parts {
			for which := range calls {
				for _, b := range edges {
					for _, p := range edges {
						checkCall(t, bytes, pages, which, b, p)
					}
				}
			}
		}
	}
}

func checkCall(t *testing.T, bytes, pages part, which, b, p int) {
	t.Helper()
	newBytes, mayBytes := bytes.after(which, b)
	newPages, mayPages := pages.after(which, p)
	want, wantErr := both(newBytes, newPages), api.OK
	if !mayBytes || !mayPages {
		want, wantErr = both(bytes, pages), refusal(which)
	}
	q := brought(t, both(bytes, pages))
	err := call(q, which, of(b, p))
	if got := stateOf(q); got != want || err != wantErr {
		t.Fatalf("%v: %s(%v): %d, then %v; want %d, %v", both(bytes, pages), names[which], of(b, p), err, got, wantErr, want)
	}
}

// A byte or a page more or less than there is, of ordinary numbers: which call refuses it, and how.
func TestEveryCallBesideOrdinarySums(t *testing.T) {
	from := state{of(1000, 20), of(300, 4), of(50, 6)}
	for _, c := range []struct {
		which int
		just  sum.Sum
		over  sum.Sum // 1, if more may not be; -1, if less may not be
		err   api.Errno
	}{
		{reserve, of(650, 10), 1, api.ErrQuota},
		{commit, of(50, 6), 1, api.ErrArg},
		{cancel, of(50, 6), 1, api.ErrArg},
		{refund, of(300, 4), 1, api.ErrArg},
		{resize, of(350, 10), -1, api.ErrQuota},
	} {
		for _, step := range []sum.Sum{of(1, 0), of(0, 1), of(1, 1)} {
			for _, within := range []sum.Sum{c.just, c.just - c.over*step} {
				if err := call(brought(t, from), c.which, within); err != api.OK {
					t.Errorf("%s(%v): %d", names[c.which], within, err)
				}
			}
			q := brought(t, from)
			if err := call(q, c.which, c.just+c.over*step); err != c.err || stateOf(q) != from {
				t.Errorf("%s(%v): %d, then %v", names[c.which], c.just+c.over*step, err, stateOf(q))
			}
		}
		// One part too much isn't made up for by the other one.
		for _, mixed := range []sum.Sum{of(1, 0) - of(0, 1), of(0, 1) - of(1, 0)} {
			q := brought(t, from)
			if err := call(q, c.which, c.just+mixed); err != c.err || stateOf(q) != from {
				t.Errorf("%s(%v): %d, then %v", names[c.which], c.just+mixed, err, stateOf(q))
			}
		}
	}
}

// ErrArg comes first, whatever the state: also where a right sum would be refused, or where the real numbers would fit.
func TestEveryCallOfWrongSums(t *testing.T) {
	wrong := wrongSums()
	for _, from := range append(edgeStates(), state{of(1000, 20), of(300, 4), of(50, 6)}) {
		q := brought(t, from)
		for which := range calls {
			for _, s := range wrong {
				if err := call(q, which, s); err != api.ErrArg {
					t.Fatalf("%v: %s(%v): %d", from, names[which], s, err)
				}
			}
			if got := stateOf(q); got != from {
				t.Fatalf("%v: %s of wrong sums: then %v", from, names[which], got)
			}
		}
	}
}

func TestNothingAtAllIsRightInEachCall(t *testing.T) {
	below := math.Copysign(0, -1)
	for _, from := range edgeStates() {
		for _, nothing := range []sum.Sum{0, sum.Sum(complex(below, below)), sum.Sum(complex(0, below)), sum.Sum(complex(below, 0))} {
			q := brought(t, from)
			must(t, q.Reserve(nothing), q.Commit(nothing), q.Cancel(nothing), q.Refund(nothing))
			if got := stateOf(q); got != from {
				t.Fatalf("%v: then %v", from, got)
			}
		}
	}
}

func TestLimitOfNothing(t *testing.T) {
	q := brought(t, state{})
	for _, s := range []sum.Sum{of(1, 0), of(0, 1), of(1, 1), of(bound, bound)} {
		if err := q.Reserve(s); err != api.ErrQuota {
			t.Errorf("Reserve(%v): %d", s, err)
		}
	}
	must(t, q.Reserve(0), q.Commit(0), q.Cancel(0), q.Refund(0), q.Resize(0))
	must(t, q.Resize(of(1, 0)), q.Reserve(of(1, 0)))
	if err := q.Resize(0); err != api.ErrQuota {
		t.Errorf("Resize(0) with a byte reserved: %d", err)
	}
}

func TestGreatestLimit(t *testing.T) {
	most := of(bound, bound)
	q := brought(t, state{most, 0, 0})
	must(t, q.Reserve(most), q.Commit(most))
	for _, s := range []sum.Sum{of(1, 0), of(0, 1), most} {
		// All together is more than a sum may have, and yet the sum itself is right.
		if err := q.Reserve(s); err != api.ErrQuota {
			t.Errorf("Reserve(%v): %d", s, err)
		}
	}
	for _, s := range []sum.Sum{of(bound-1, bound), of(bound, bound-1), 0} {
		if err := q.Resize(s); err != api.ErrQuota {
			t.Errorf("Resize(%v): %d", s, err)
		}
	}
	must(t, q.Resize(most), q.Refund(most))
	if got := stateOf(q); got != (state{most, 0, 0}) {
		t.Errorf("%v", got)
	}
}

// What is charged and what is reserved are held apart, though the limit is for both.
func TestReservedAndChargedAtOnce(t *testing.T) {
	from := state{of(100, 10), of(60, 7), of(40, 3)}
	for _, c := range []struct {
		which int
		s     sum.Sum
		err   api.Errno
	}{
		{reserve, of(1, 0), api.ErrQuota}, {reserve, of(0, 1), api.ErrQuota},
		{commit, of(41, 0), api.ErrArg}, {commit, of(0, 4), api.ErrArg}, {commit, of(60, 3), api.ErrArg},
		{cancel, of(41, 0), api.ErrArg}, {cancel, of(0, 4), api.ErrArg}, {cancel, of(60, 3), api.ErrArg},
		{refund, of(61, 0), api.ErrArg}, {refund, of(0, 8), api.ErrArg}, {refund, of(100, 10), api.ErrArg},
		{resize, of(99, 10), api.ErrQuota}, {resize, of(100, 9), api.ErrQuota}, {resize, of(60, 7), api.ErrQuota},
	} {
		q := brought(t, from)
		if err := call(q, c.which, c.s); err != c.err || stateOf(q) != from {
			t.Errorf("%s(%v): %d, then %v", names[c.which], c.s, err, stateOf(q))
		}
	}
	q := brought(t, from)
	must(t, q.Commit(of(15, 1)), q.Cancel(of(5, 2)), q.Refund(of(75, 8)), q.Reserve(of(80, 10)))
	if got := stateOf(q); got != (state{of(100, 10), 0, of(100, 10)}) {
		t.Errorf("%v", got)
	}
}

// P6.3

// What a call tells of one of the two, the other one doesn't know: neither the copy of the first, nor the first of the copy.
func TestCopiesKnowNothingOfEachOther(t *testing.T) {
	from := state{of(100, 10), of(30, 3), of(20, 2)}
	for which := range calls {
		s := of(10, 1)
		if which == resize {
			s = of(60, 6)
		}
		for _, copyGoesOn := range []bool{false, true} {
			on := brought(t, from)
			stays := on.Copy()
			if stateOf(stays) != from {
				t.Fatalf("copy: %v", stateOf(stays))
			}
			if copyGoesOn {
				on, stays = stays, on
			}
			must(t, call(on, which, s))
			if stateOf(on) == from || stateOf(stays) != from {
				t.Errorf("%s, copy goes on %v: %v and %v", names[which], copyGoesOn, stateOf(on), stateOf(stays))
			}
		}
	}
}

func TestCopyGoesOnAsTheFirstOneDoes(t *testing.T) {
	for _, from := range edgeStates() {
		for which := range calls {
			for _, s := range []sum.Sum{0, of(1, 0), of(0, 1), of(2, 1), of(bound, bound)} {
				q := brought(t, from)
				other := q.Copy()
				if q == other {
					t.Fatal("the copy is the first one")
				}
				a, b := call(q, which, s), call(other, which, s)
				if a != b || stateOf(q) != stateOf(other) {
					t.Fatalf("%v: %s(%v): %d, %v and %d, %v", from, names[which], s, a, stateOf(q), b, stateOf(other))
				}
			}
		}
	}
}

func TestNil(t *testing.T) {
	var q *Quota
	for which := range calls {
		for _, s := range append(wrongSums(), 0, of(1, 0), of(0, 1), of(100, 1), of(bound, bound)) {
			if err := call(q, which, s); err != api.ErrNil {
				t.Errorf("%s(%v): %d", names[which], s, err)
			}
		}
	}
	if q.Limit() != 0 || q.Charged() != 0 || q.Reserved() != 0 {
		t.Error(q.Limit(), q.Charged(), q.Reserved())
	}
	if other := q.Copy(); other != nil {
		t.Error(other)
	}
}

// P6.4

func checkFits(t *testing.T, q *Quota) {
	t.Helper()
	s := stateOf(q)
	if !s.limit.Right() || !s.charged.Right() || !s.reserved.Right() {
		t.Fatalf("not right: %v", s)
	}
	if s.charged.Bytes()+s.reserved.Bytes() > s.limit.Bytes() || s.charged.Pages()+s.reserved.Pages() > s.limit.Pages() {
		t.Fatalf("above the limit: %v", s)
	}
}

// anySum is often one that just fits or just doesn't, sometimes wrong.
func anySum(r *rand.Rand, q *Quota, wrong []sum.Sum) sum.Sum {
	near := []sum.Sum{
		q.Limit(), q.Charged(), q.Reserved(), q.Charged() + q.Reserved(), q.Limit() - q.Charged() - q.Reserved(),
		of(r.Intn(200), r.Intn(10)), of(r.Intn(50), r.Intn(3)), of(r.Intn(3), 0), of(bound, bound), of(bound-r.Intn(3), bound-r.Intn(3)),
	}
	s := near[r.Intn(len(near))]
	switch r.Intn(6) {
	case 0:
		s += of(r.Intn(3)-1, r.Intn(3)-1)
	case 1:
		s = wrong[r.Intn(len(wrong))]
	}
	return s
}

func TestWhateverIsAskedItFitsTheLimit(t *testing.T) {
	wrong := wrongSums()
	for seed := range 200 {
		r := rand.New(rand.NewSource(int64(seed)))
		q := brought(t, state{of(r.Intn(500), r.Intn(20)), 0, 0})
		for range 1000 {
			which := r.Intn(calls)
			before := stateOf(q)
			if err := call(q, which, anySum(r, q, wrong)); err != api.OK && stateOf(q) != before {
				t.Fatalf("%s: %d, and yet %v is %v", names[which], err, before, stateOf(q))
			}
			checkFits(t, q)
		}
	}
}

func TestReservedAndTakenBackLeavesItAsItWas(t *testing.T) {
	for _, from := range edgeStates() {
		q := brought(t, from)
		for _, b := range edges {
			for _, p := range edges {
				s := of(b, p)
				if q.Reserve(s) != api.OK {
					continue
				}
				must(t, q.Cancel(s))
				if got := stateOf(q); got != from {
					t.Fatalf("%v: Reserve and Cancel of %v: %v", from, s, got)
				}
				must(t, q.Reserve(s), q.Commit(s), q.Refund(s))
				if got := stateOf(q); got != from {
					t.Fatalf("%v: Reserve, Commit and Refund of %v: %v", from, s, got)
				}
			}
		}
	}
}

// What was reserved at once may be committed and cancelled in pieces, and refunded in others.
func TestInPieces(t *testing.T) {
	from := state{of(bound, 100), of(7, 1), of(9, 2)}
	q := brought(t, from)
	must(t, q.Reserve(of(90, 30)))
	must(t, q.Commit(of(50, 0)), q.Cancel(of(0, 29)), q.Commit(of(10, 1)), q.Cancel(of(30, 0)))
	if got := stateOf(q); got != (state{of(bound, 100), of(67, 2), of(9, 2)}) {
		t.Fatalf("%v", got)
	}
	must(t, q.Refund(of(1, 1)), q.Refund(of(59, 0)))
	if got := stateOf(q); got != from {
		t.Errorf("%v", got)
	}
}

// The chapter's examples.

func TestExamples(t *testing.T) {
	q, err := New(of(100, 1))
	must(t, err)
	for i, c := range []struct {
		which, bytes int
		want         api.Errno
	}{
		{reserve, 60, api.OK}, {reserve, 50, api.ErrQuota}, {commit, 60, api.OK}, {refund, 70, api.ErrArg},
		{resize, 50, api.ErrQuota}, {refund, 60, api.OK}, {resize, 50, api.OK},
	} {
		if err := call(q, c.which, of(c.bytes, 0)); err != c.want {
			t.Fatalf("%d: %s(%d): %d, want %d", i, names[c.which], c.bytes, err, c.want)
		}
	}
	if got := stateOf(q); got != (state{of(50, 0), 0, 0}) {
		t.Errorf("%v", got)
	}
}
