package colour

import (
	"math"
	"math/rand"
	"slices"
	"testing"

	"garth/api"
)

// configs are configurations that may be: 1 and 32 colours, 1 and 4096 pages, as many colours as pages, and colours of more pages than a word has bits.
var configs = []api.Config{
	{Pages: 1, Colours: 1}, {Pages: 2, Colours: 1}, {Pages: 2, Colours: 2}, {Pages: 6, Colours: 3}, {Pages: 32, Colours: 32},
	{Pages: 64, Colours: 32}, {Pages: 64, Colours: 4}, {Pages: 65, Colours: 1}, {Pages: 130, Colours: 2}, {Pages: 195, Colours: 3},
	{Pages: 4096, Colours: 1}, {Pages: 4096, Colours: 2}, {Pages: 4096, Colours: 32}, {Pages: 4095, Colours: 1}, {Pages: 4095, Colours: 15}, {Pages: 4064, Colours: 32},
}

// plain is a map the plain way: a row of bools, looked through from the front.
type plain struct {
	taken   []bool
	colours int
}

func (p plain) in(page int, window []int) bool {
	return slices.Contains(window, page%p.colours)
}

func (p plain) there(page int) bool { return page >= 0 && page < len(p.taken) }

func (p plain) copy() plain { return plain{slices.Clone(p.taken), p.colours} }

func (p plain) take(window []int) (int, api.Errno) {
	for page, taken := range p.taken {
		if !taken && p.in(page, window) {
			p.taken[page] = true
			return page, api.OK
		}
	}
	return 0, api.ErrNone
}

func (p plain) give(page int) api.Errno {
	switch {
	case !p.there(page):
		return api.ErrArg
	case !p.taken[page]:
		return api.ErrNone
	}
	p.taken[page] = false
	return api.OK
}

func (p plain) free(window []int) int {
	n := 0
	for page, taken := range p.taken {
		if !taken && p.in(page, window) {
			n++
		}
	}
	return n
}

// fresh makes a map, and a plain one beside it.
func fresh(t *testing.T, c api.Config) (*Map, plain) {
	t.Helper()
	m, err := New(c)
	if err != api.OK || m == nil {
		t.Fatalf("New(%v): %v, %d", c, m, err)
	}
	return m, plain{make([]bool, c.Pages), c.Colours}
}

// beside are numbers that are no page of n.
func beside(n int) []int {
	return []int{-1, -2, -32, -64, -n, -n - 1, math.MinInt, math.MinInt + 1, n, n + 1, n + 32, 2 * n, 4097 + n, math.MaxInt - 1, math.MaxInt}
}

// noColours are numbers that are none of n colours.
func noColours(n int) []int {
	return []int{-1, -2, -n, -n - 1, -32, -64, math.MinInt, n, n + 1, 2 * n, n + 32, n + 64, n + 256, n + 1<<32, math.MaxInt}
}

// all has the colours 0 to n - 1.
func all(n int) []int {
	var out []int
	for c := range n {
		out = append(out, c)
	}
	return out
}

// windowsOf are windows over n colours: of none, of one, of some, of all, upside down, twice, and with numbers that are no colour.
func windowsOf(n int) [][]int {
	up := all(n)
	down := slices.Clone(up)
	slices.Reverse(down)
	out := [][]int{nil, {}, noColours(n), up, down, slices.Concat(up, up), slices.Concat(noColours(n), down, noColours(n), up)}
	for _, c := range []int{0, n / 2, n - 1} {
		out = append(out, []int{c}, []int{c, c, c}, []int{-1, c, n}, slices.Concat(noColours(n), []int{c}, noColours(n), []int{c}))
	}
	return append(out, []int{n - 1, 0}, []int{n / 2, n - 1, n / 2})
}

// is holds all that a map tells against the plain one.
func is(t *testing.T, m *Map, p plain) {
	t.Helper()
	if m.Each() != len(p.taken)/p.colours {
		t.Fatalf("Each: %d of %d pages, %d colours", m.Each(), len(p.taken), p.colours)
	}
	for page, taken := range p.taken {
		if m.Taken(page) != taken || m.Colour(page) != page%p.colours {
			t.Fatalf("page %d: taken %v, colour %d; want %v, %d", page, m.Taken(page), m.Colour(page), taken, page%p.colours)
		}
	}
	for c := range p.colours {
		if got, want := m.Free(c), p.free([]int{c}); got != want {
			t.Fatalf("Free(%d): %d, want %d", c, got, want)
		}
	}
	for _, page := range beside(len(p.taken)) {
		if m.Taken(page) || m.Colour(page) != -1 {
			t.Fatalf("no page %d: taken %v, colour %d", page, m.Taken(page), m.Colour(page))
		}
	}
}

// takes takes out of both, and holds the answers against each other.
func takes(t *testing.T, m *Map, p plain, window []int) (int, api.Errno) {
	t.Helper()
	want, wantErr := p.take(window)
	got, err := m.Take(window...)
	if got != want || err != wantErr {
		t.Fatalf("Take(%v): %d, %d; want %d, %d", window, got, err, want, wantErr)
	}
	return got, err
}

// gives gives back to both likewise.
func gives(t *testing.T, m *Map, p plain, page int) {
	t.Helper()
	want := p.give(page)
	if err := m.Give(page); err != want {
		t.Fatalf("Give(%d): %d, want %d", page, err, want)
	}
}

// brought makes a map of which just those pages are taken.
func brought(t *testing.T, c api.Config, taken []bool) (*Map, plain) {
	t.Helper()
	m, p := fresh(t, c)
	for range c.Pages {
		takes(t, m, p, all(c.Colours))
	}
	for page, stays := range taken {
		if !stays {
			gives(t, m, p, page)
		}
	}
	is(t, m, plain{taken, c.Colours})
	return m, p
}

// P7.1

func TestCheckOfEveryConfiguration(t *testing.T) {
	for colours := -3; colours <= 70; colours++ {
		for pages := -3; pages <= 4200; pages++ {
			want := api.ErrArg
			if colours >= 1 && colours <= 32 && pages >= 1 && pages <= 4096 && pages%colours == 0 {
				want = api.OK
			}
			if got := Check(api.Config{Pages: pages, Colours: colours}); got != want {
				t.Fatalf("pages %d, colours %d: %d, want %d", pages, colours, got, want)
			}
		}
	}
}

func TestConfigurationsThatMayNotBe(t *testing.T) {
	for _, c := range []api.Config{
		{}, {Pages: 64, Colours: 0}, {Pages: 66, Colours: 33}, {Pages: 64, Colours: 64}, {Pages: 0, Colours: 1}, {Pages: 0, Colours: 0}, {Pages: 4097, Colours: 1},
		{Pages: 8192, Colours: 32}, {Pages: 7, Colours: 2}, {Pages: 1, Colours: 2}, {Pages: 31, Colours: 32}, {Pages: 4096, Colours: 3}, {Pages: 16, Colours: 32},
		{Pages: -1, Colours: 1}, {Pages: -6, Colours: -3}, {Pages: 6, Colours: -3}, {Pages: -6, Colours: 3}, {Pages: 6, Colours: -1}, {Pages: -4096, Colours: 32},
		{Pages: math.MinInt, Colours: 1}, {Pages: math.MinInt, Colours: -1}, {Pages: math.MaxInt, Colours: 1}, {Pages: 1, Colours: math.MinInt},
		{Pages: 1, Colours: math.MaxInt}, {Pages: math.MaxInt, Colours: math.MaxInt}, {Pages: math.MinInt, Colours: math.MinInt}, {Pages: 1<<32 + 64, Colours: 4}, {Pages: 64, Colours: 1<<32 + 4},
	} {
		if err := Check(c); err != api.ErrArg {
			t.Errorf("Check(%v): %d", c, err)
		}
		if m, err := New(c); m != nil || err != api.ErrArg {
			t.Errorf("New(%v): %v, %d", c, m, err)
		}
	}
}

func TestNewMakesAllPagesFree(t *testing.T) {
	for _, c := range configs {
		if err := Check(c); err != api.OK {
			t.Fatalf("Check(%v): %d", c, err)
		}
		m, p := fresh(t, c)
		is(t, m, p)
		if got := m.Free(all(c.Colours)...); got != c.Pages {
			t.Fatalf("%v: %d are free", c, got)
		}
	}
}

func TestEachColourHasAsManyPages(t *testing.T) {
	for _, c := range configs {
		m, _ := fresh(t, c)
		count := make([]int, c.Colours)
		for page := range c.Pages {
			count[m.Colour(page)]++
		}
		for colour, n := range count {
			if n != m.Each() || n != c.Pages/c.Colours {
				t.Fatalf("%v: the colour %d has %d pages, Each tells %d", c, colour, n, m.Each())
			}
		}
	}
}

func TestAnswersStayWhileAllIsTaken(t *testing.T) {
	for _, c := range configs {
		taken := make([]bool, c.Pages)
		for page := range taken {
			taken[page] = true
		}
		m, _ := brought(t, c, taken)
		if !m.Taken(0) || !m.Taken(c.Pages-1) || m.Taken(c.Pages) || m.Taken(-1) {
			t.Fatalf("%v: %v, %v, %v, %v", c, m.Taken(0), m.Taken(c.Pages-1), m.Taken(c.Pages), m.Taken(-1))
		}
		if m.Colour(c.Pages) != -1 || m.Colour(-1) != -1 || m.Colour(c.Pages-1) != c.Colours-1 {
			t.Fatalf("%v: %d, %d, %d", c, m.Colour(c.Pages), m.Colour(-1), m.Colour(c.Pages-1))
		}
	}
}

// P7.2

// TestEveryWindowOfEveryState goes through all states of small maps: in each of them each window takes and counts, and each page is given back.
func TestEveryWindowOfEveryState(t *testing.T) {
	for _, c := range []api.Config{{Pages: 1, Colours: 1}, {Pages: 3, Colours: 1}, {Pages: 3, Colours: 3}, {Pages: 4, Colours: 2}, {Pages: 6, Colours: 3}, {Pages: 6, Colours: 2}} {
		for bits := range 1 << c.Pages {
			taken := make([]bool, c.Pages)
			for page := range taken {
				taken[page] = bits>>page&1 == 1
			}
			m, p := brought(t, c, taken)
			everyCall(t, m, p)
		}
	}
}

func everyCall(t *testing.T, m *Map, p plain) {
	t.Helper()
	for _, window := range windowsOf(p.colours) {
		if got, want := m.Free(window...), p.free(window); got != want {
			t.Fatalf("%v: Free(%v): %d, want %d", p, window, got, want)
		}
		m, p := m.Copy(), p.copy()
		takes(t, m, p, window)
		is(t, m, p)
	}
	for page := -2; page < len(p.taken)+2; page++ {
		m, p := m.Copy(), p.copy()
		gives(t, m, p, page)
		is(t, m, p)
	}
}

func TestTakeTillNothingIsLeft(t *testing.T) {
	for _, c := range configs {
		for _, window := range windowsOf(c.Colours) {
			m, p := fresh(t, c)
			for n := m.Free(window...); n > 0; n-- {
				if _, err := takes(t, m, p, window); err != api.OK || m.Free(window...) != n-1 {
					t.Fatalf("%v: Take(%v): %d, %d are free", c, window, err, m.Free(window...))
				}
			}
			for range 2 {
				if page, err := m.Take(window...); page != 0 || err != api.ErrNone {
					t.Fatalf("%v: Take(%v) of nothing: %d, %d", c, window, page, err)
				}
			}
			is(t, m, p)
		}
	}
}

func TestWindowIsFullWhileOthersAreFree(t *testing.T) {
	for _, c := range configs {
		if c.Colours == 1 {
			continue
		}
		m, p := fresh(t, c)
		for range m.Each() {
			takes(t, m, p, []int{1})
		}
		if page, err := m.Take(1); page != 0 || err != api.ErrNone || m.Free(1) != 0 || m.Free(0) != m.Each() {
			t.Fatalf("%v: %d, %d; %d, %d are free", c, page, err, m.Free(1), m.Free(0))
		}
		is(t, m, p)
		// A window in which one colour is full goes on with the other one.
		if page, err := m.Take(1, 0); page != 0 || err != api.OK || !m.Taken(0) {
			t.Fatalf("%v: %d, %d", c, page, err)
		}
	}
}

func TestNumbersThatAreNoColour(t *testing.T) {
	for _, c := range configs {
		m, p := fresh(t, c)
		takes(t, m, p, all(c.Colours))
		for _, n := range noColours(c.Colours) {
			if page, err := m.Take(n); page != 0 || err != api.ErrNone {
				t.Fatalf("%v: Take(%d): %d, %d", c, n, page, err)
			}
			if got := m.Free(n); got != 0 {
				t.Fatalf("%v: Free(%d): %d", c, n, got)
			}
		}
		if page, err := m.Take(); page != 0 || err != api.ErrNone || m.Free() != 0 {
			t.Fatalf("%v: no window: %d, %d, %d", c, page, err, m.Free())
		}
		is(t, m, p)
	}
}

func TestColourNamedTwiceCountsOnce(t *testing.T) {
	for _, c := range configs {
		m, p := fresh(t, c)
		if got := m.Free(0, 0, 0); got != m.Each() {
			t.Fatalf("%v: %d", c, got)
		}
		takes(t, m, p, []int{0, 0})
		if got := m.Free(0, 0, -1, 0); got != m.Each()-1 {
			t.Fatalf("%v: %d", c, got)
		}
		is(t, m, p)
	}
}

func TestGivenPageIsTheLowestAgain(t *testing.T) {
	for _, c := range configs {
		m, p := fresh(t, c)
		for range c.Pages {
			takes(t, m, p, all(c.Colours))
		}
		for page := c.Pages - 1; page >= 0; page -= 1 + c.Pages/40 {
			gives(t, m, p, page)
			if m.Taken(page) || m.Free(m.Colour(page)) == 0 {
				t.Fatalf("%v: the page %d is taken", c, page)
			}
			if got, err := m.Copy().Take(all(c.Colours)...); got != page || err != api.OK {
				t.Fatalf("%v: %d, %d; want %d", c, got, err, page)
			}
			if got, err := m.Copy().Take(m.Colour(page)); got != page || err != api.OK {
				t.Fatalf("%v: %d, %d; want %d", c, got, err, page)
			}
		}
		is(t, m, p)
	}
}

func TestGiveOfWrongPages(t *testing.T) {
	for _, c := range configs {
		m, p := fresh(t, c)
		for page := range c.Pages {
			if err := m.Give(page); err != api.ErrNone {
				t.Fatalf("%v: Give(%d) of a free page: %d", c, page, err)
			}
		}
		is(t, m, p)
		for range (c.Pages + 1) / 2 {
			takes(t, m, p, all(c.Colours))
		}
		for _, page := range beside(c.Pages) {
			if err := m.Give(page); err != api.ErrArg {
				t.Fatalf("%v: Give(%d) of no page: %d", c, page, err)
			}
		}
		is(t, m, p)
		if a, b := m.Give(0), m.Give(0); a != api.OK || b != api.ErrNone || m.Taken(0) {
			t.Fatalf("%v: Give(0) twice: %d, %d", c, a, b)
		}
	}
}

func TestWindowIsLeftAsItIs(t *testing.T) {
	m, _ := fresh(t, api.Config{Pages: 6, Colours: 3})
	spare := []int{2, -1, 0, 2, 7, 9, 9}
	window := spare[:4]
	for range 5 {
		m.Take(window...)
		m.Free(window...)
	}
	if !slices.Equal(spare, []int{2, -1, 0, 2, 7, 9, 9}) {
		t.Fatal(spare)
	}
	window[0], window[2] = 1, 1
	if page, err := m.Take(0, 2); page != 0 || err != api.ErrNone {
		t.Fatal(page, err)
	}
}

// TestJumbles runs calls in jumbles beside the plain map.
func TestJumbles(t *testing.T) {
	for i, c := range configs {
		m, p := fresh(t, c)
		r := rand.New(rand.NewSource(int64(i)))
		windows := windowsOf(c.Colours)
		for range 2000 {
			window := windows[r.Intn(len(windows))]
			if r.Intn(2) == 0 {
				window = []int{r.Intn(c.Colours+2) - 1, r.Intn(c.Colours+2) - 1}
			}
			switch r.Intn(5) {
			case 0, 1, 2:
				takes(t, m, p, window)
			case 3:
				gives(t, m, p, r.Intn(c.Pages+2)-1)
			default:
				if got, want := m.Free(window...), p.free(window); got != want {
					t.Fatalf("%v: Free(%v): %d, want %d", c, window, got, want)
				}
			}
		}
		is(t, m, p)
	}
}

// P7.3

func TestEitherCopyGoesOn(t *testing.T) {
	for _, c := range configs {
		a, pa := fresh(t, c)
		for range (c.Pages + 1) / 2 {
			takes(t, a, pa, all(c.Colours))
		}
		b, pb := a.Copy(), pa.copy()
		if b == nil || b == a {
			t.Fatalf("%v: %p is a copy of %p", c, b, a)
		}
		is(t, b, pb)

		takes(t, a, pa, all(c.Colours))
		is(t, b, pb)
		gives(t, a, pa, 0)
		is(t, b, pb)

		for range c.Pages {
			takes(t, b, pb, all(c.Colours))
		}
		is(t, a, pa)
		for page := range c.Pages {
			gives(t, b, pb, page)
		}
		is(t, a, pa)
		is(t, b, pb)
	}
}

func TestNilMap(t *testing.T) {
	var m *Map
	for _, window := range append(windowsOf(1), windowsOf(32)...) {
		if page, err := m.Take(window...); page != 0 || err != api.ErrNil {
			t.Errorf("Take(%v): %d, %d", window, page, err)
		}
		if n := m.Free(window...); n != 0 {
			t.Errorf("Free(%v): %d", window, n)
		}
	}
	for _, page := range append(beside(6), 0, 1, 5) {
		if a, b, c := m.Give(page), m.Colour(page), m.Taken(page); a != api.ErrNil || b != -1 || c {
			t.Errorf("page %d: %d, %d, %v", page, a, b, c)
		}
	}
	if m.Each() != 0 || m.Copy() != nil {
		t.Error(m.Each(), m.Copy())
	}
}

func TestMapThatNobodyMadeHasNothing(t *testing.T) {
	for _, m := range []*Map{new(Map), new(Map).Copy()} {
		for _, n := range []int{-1, 0, 1, math.MinInt, math.MaxInt} {
			if page, err := m.Take(n); page != 0 || err != api.ErrNone {
				t.Errorf("Take(%d): %d, %d", n, page, err)
			}
			if a, b, c, d := m.Give(n), m.Colour(n), m.Taken(n), m.Free(n); a != api.ErrArg || b != -1 || c || d != 0 {
				t.Errorf("%d: %d, %d, %v, %d", n, a, b, c, d)
			}
		}
		if m.Each() != 0 {
			t.Error(m.Each())
		}
	}
}

func TestTwoMapsNeverMeet(t *testing.T) {
	for _, c := range configs {
		a, pa := fresh(t, c)
		b, pb := fresh(t, c)
		for range c.Pages {
			takes(t, a, pa, all(c.Colours))
		}
		is(t, b, pb)
	}
}

// P7.4

// apart are two windows without a common colour: each colour is in one of them, and beside them stand numbers that are no colour.
func apart(n int, r *rand.Rand) (one, other []int) {
	for _, c := range r.Perm(n) {
		if r.Intn(2) == 0 {
			one = append(one, c, c)
		} else {
			other = append(other, c)
		}
	}
	return append(one, -1), append(other, n, -n)
}

func TestWhatIsTakenIsOfTheWindow(t *testing.T) {
	for i, c := range configs {
		r := rand.New(rand.NewSource(int64(i)))
		for range 20 {
			m, _ := fresh(t, c)
			window, _ := apart(c.Colours, r)
			free := m.Free(window...)
			for n := range free + 1 {
				page, err := m.Take(window...)
				switch {
				case n == free && (err != api.ErrNone || page != 0):
					t.Fatalf("%v: Take(%v) of nothing: %d, %d", c, window, page, err)
				case n < free && (err != api.OK || !slices.Contains(window, m.Colour(page)) || !m.Taken(page)):
					t.Fatalf("%v: Take(%v): %d, %d", c, window, page, err)
				}
			}
		}
	}
}

// TestWindowsApartNeverMeet works in two windows of one map, and in each of them once more on a map of its own: all that is answered is the same.
func TestWindowsApartNeverMeet(t *testing.T) {
	for i, c := range configs {
		r := rand.New(rand.NewSource(int64(i)))
		for range 5 {
			workApart(t, c, r)
		}
	}
}

func workApart(t *testing.T, c api.Config, r *rand.Rand) {
	t.Helper()
	var alone [2]*Map
	var windows, held [2][]int
	both, _ := fresh(t, c)
	windows[0], windows[1] = apart(c.Colours, r)
	for w := range alone {
		alone[w], _ = fresh(t, c)
	}
	for range 600 {
		w := r.Intn(2)
		if r.Intn(3) > 0 {
			held[w] = takesAlike(t, both, alone[w], windows[w], held[w], held[1-w])
		} else if n := len(held[w]); n > 0 {
			k := r.Intn(n)
			if a, b := both.Give(held[w][k]), alone[w].Give(held[w][k]); a != api.OK || b != api.OK {
				t.Fatalf("%v: Give(%d): %d, alone %d", c, held[w][k], a, b)
			}
			held[w] = slices.Delete(held[w], k, k+1)
		}
		for w := range alone {
			if a, b := both.Free(windows[w]...), alone[w].Free(windows[w]...); a != b {
				t.Fatalf("%v: Free(%v): %d, alone %d", c, windows[w], a, b)
			}
		}
	}
}

func takesAlike(t *testing.T, both, alone *Map, window, held, others []int) []int {
	t.Helper()
	page, err := both.Take(window...)
	if want, wantErr := alone.Take(window...); page != want || err != wantErr {
		t.Fatalf("Take(%v): %d, %d; alone %d, %d", window, page, err, want, wantErr)
	}
	if err != api.OK {
		return held
	}
	if slices.Contains(held, page) || slices.Contains(others, page) || !slices.Contains(window, both.Colour(page)) {
		t.Fatalf("Take(%v): %d is had by %v or %v", window, page, held, others)
	}
	return append(held, page)
}

// The chapter's examples.

func TestExamples(t *testing.T) {
	m, _ := fresh(t, api.Config{Pages: 6, Colours: 3})
	for page, want := range []int{0, 1, 2, 0, 1, 2, -1} {
		if got := m.Colour(page); got != want {
			t.Errorf("Colour(%d): %d", page, got)
		}
	}
	take := func(want int, wantErr api.Errno, window ...int) {
		t.Helper()
		if page, err := m.Take(window...); page != want || err != wantErr {
			t.Fatalf("Take(%v): %d, %d; want %d, %d", window, page, err, want, wantErr)
		}
	}
	take(1, api.OK, 2, 1)
	take(2, api.OK, 2, 1)
	take(5, api.OK, 2)
	take(0, api.ErrNone, 2)
	if err := m.Give(2); err != api.OK {
		t.Fatal(err)
	}
	take(2, api.OK, 1, 2)
	if got := m.Free(0); got != 2 {
		t.Fatal(got)
	}
}
