package op

import (
	"math"
	"math/big"
	"math/rand"
	"strings"
	"testing"

	"garth/api"
)

// wordOf is the chapter's row of words, written out by the kinds' numbers.
var wordOf = map[int]string{
	1: "create", 2: "resize", 3: "destroy", 4: "malloc", 5: "calloc", 6: "free",
	7: "realloc", 8: "usable", 9: "read", 10: "write", 11: "restrict",
}

// far are numbers that no kind, tenant or size may be; the lower bits of many would be one.
var far = []int{
	math.MinInt, math.MinInt + 1, math.MinInt + 4, math.MinInt32, -1 << 32, -1<<32 + 4, -8193, -8192, -256, -12, -11, -8, -7, -5, -4, -2, -1,
	1 << 31, 1 << 32, 1<<32 + 1, 1<<32 + 4, 1<<32 + 10, 1 << 62, 1<<62 + 5, math.MaxInt - 1, math.MaxInt,
}

// What an operation may and may not have.
var (
	rightTenants = []int{0, 1, 2, 3, 4, 5, 6, 7}
	wrongTenants = append([]int{8, 9, 15, 16, 255, 256, 8192}, far...)
	wrongKinds   = append([]int{0, 12, 13, 14, 15, 16, 17, 20, 26, 255, 256, 260, 8192}, far...)
)

// Numbers beside what is asked for: any ones.
var (
	anyNumbers = []int{math.MinInt, -1, 0, 1, 40, 8192, 8193, math.MaxInt}
	anyHandles = []uint64{0, 1, 1048688, 1 << 63, math.MaxUint64}
)

// sizes are the least and the greatest number of bytes of each kind of block.
var sizes = []int{
	1, 16, 17, 32, 33, 48, 49, 64, 65, 96, 97, 128, 129, 192, 193, 256,
	257, 512, 513, 1024, 1025, 1536, 1537, 2048, 2049, 2560, 2561, 3072, 3073, 3584, 3585, 4096,
	4097, 4608, 4609, 5120, 5121, 5632, 5633, 6144, 6145, 6656, 6657, 7168, 7169, 7680, 7681, 8192,
}

// noSizes are numbers of bytes that no block serves.
var noSizes = append([]int{0, -16, -100, -512, -513, 8193, 8194, 8703, 8704, 9000, 16384, 65536}, far...)

func data(n int) string { return strings.Repeat("x", n) }

// mayBe says it as the chapter's Words do.
func mayBe(o api.Op) bool {
	if o.Kind < 1 || o.Kind > 11 || o.Tenant < 0 || o.Tenant > 7 {
		return false
	}
	return o.Data == "" || o.Kind == 10 && len(o.Data) <= 8192
}

// asks says it as P19.1 does, with a product that has no bound.
func asks(o api.Op) int {
	if !mayBe(o) {
		return 0
	}
	n := big.NewInt(int64(o.N))
	switch o.Kind {
	case 4, 7:
	case 5:
		if o.N < 1 || o.M < 1 {
			return 0
		}
		n.Mul(n, big.NewInt(int64(o.M)))
	default:
		return 0
	}
	if n.Cmp(big.NewInt(1)) < 0 || n.Cmp(big.NewInt(8192)) > 0 {
		return 0
	}
	return int(n.Int64())
}

// holds asks all three of an operation.
func holds(t *testing.T, o api.Op) {
	t.Helper()
	may := mayBe(o)
	want := api.OK
	if !may {
		want = api.ErrBadOp
	}
	if got := Check(o); got != want {
		t.Fatalf("Check(%s): %d, want %d", say(o), got, want)
	}
	if got, want := Admin(o), may && o.Kind <= 3; got != want {
		t.Fatalf("Admin(%s): %v", say(o), got)
	}
	if got, want := Asks(o), asks(o); got != want {
		t.Fatalf("Asks(%s): %d, want %d", say(o), got, want)
	}
}

// refused is one that may not be, in each call.
func refused(t *testing.T, o api.Op) {
	t.Helper()
	if err, admin, n := Check(o), Admin(o), Asks(o); err != api.ErrBadOp || admin || n != 0 {
		t.Fatalf("%s: %d, %v, %d", say(o), err, admin, n)
	}
}

func asksFor(t *testing.T, o api.Op, want int) {
	t.Helper()
	if got := Asks(o); got != want {
		t.Fatalf("Asks(%s): %d, want %d", say(o), got, want)
	}
}

// say shortens the data, of which the length alone counts.
func say(o api.Op) string {
	n := func(i int) string { return big.NewInt(int64(i)).String() }
	return "{Kind " + n(o.Kind) + ", Tenant " + n(o.Tenant) + ", N " + n(o.N) + ", M " + n(o.M) +
		", Handle " + new(big.Int).SetUint64(o.Handle).String() + ", Data of " + n(len(o.Data)) + "}"
}

func everyRightKind(tell func(kind int)) {
	for kind := 1; kind <= 11; kind++ {
		tell(kind)
	}
}

// everyRest hands on any numbers and handles with the rest of o.
func everyRest(o api.Op, tell func(api.Op)) {
	for _, o.N = range anyNumbers {
		for _, o.M = range anyNumbers {
			for _, o.Handle = range anyHandles {
				tell(o)
			}
		}
	}
}

// P19.1: Check

func TestCheckOfEveryRightKindAndTenant(t *testing.T) {
	everyRightKind(func(kind int) {
		for _, tenant := range rightTenants {
			everyRest(api.Op{Kind: kind, Tenant: tenant}, func(o api.Op) {
				if err := Check(o); err != api.OK {
					t.Fatalf("Check(%s): %d", say(o), err)
				}
			})
		}
	})
}

func TestKindsThatMayNotBe(t *testing.T) {
	for _, kind := range wrongKinds {
		for _, tenant := range []int{0, 7} {
			everyRest(api.Op{Kind: kind, Tenant: tenant}, func(o api.Op) { refused(t, o) })
		}
		refused(t, api.Op{Kind: kind, N: 1, M: 1, Data: "x"})
	}
}

func TestTenantsThatMayNotBe(t *testing.T) {
	everyRightKind(func(kind int) {
		for _, tenant := range wrongTenants {
			everyRest(api.Op{Kind: kind, Tenant: tenant}, func(o api.Op) { refused(t, o) })
		}
		refused(t, api.Op{Kind: kind, Tenant: 8, N: 1, M: 1, Data: "x"})
	})
}

func TestKindsNumbersAreNotTenants(t *testing.T) {
	// 8 to 11 are kinds, and no tenants; 0 is a tenant, and no kind.
	for n := -2; n <= 20; n++ {
		for m := -2; m <= 20; m++ {
			holds(t, api.Op{Kind: n, Tenant: m, N: 1, M: 1})
		}
	}
}

func TestDataOfWrite(t *testing.T) {
	for _, n := range []int{0, 1, 2, 255, 256, 512, 4096, 8191, 8192} {
		for _, tenant := range rightTenants {
			o := api.Op{Kind: 10, Tenant: tenant, N: 1, Data: data(n)}
			if err := Check(o); err != api.OK {
				t.Fatalf("Check(%s): %d", say(o), err)
			}
		}
	}
	for _, n := range []int{8193, 8194, 9000, 16384, 65536, 1 << 20} {
		for _, tenant := range rightTenants {
			refused(t, api.Op{Kind: 10, Tenant: tenant, N: 1, Data: data(n)})
		}
	}
}

func TestDataOfTheOtherKinds(t *testing.T) {
	everyRightKind(func(kind int) {
		if kind == 10 {
			return
		}
		for _, text := range []string{"x", " ", "\x00", "\xff", "é", "restrict", data(8191), data(8192), data(8193)} {
			for _, tenant := range []int{0, 7} {
				refused(t, api.Op{Kind: kind, Tenant: tenant, N: 40, M: 1, Data: text})
			}
		}
	})
}

// TestDataCountsBytes: neither what they say, nor runes, nor up to the first 0.
func TestDataCountsBytes(t *testing.T) {
	for _, piece := range []string{"\x00", "\xff", " ", "\n", "é", "\u20ac", "write"} {
		long := strings.Repeat(piece, 8193)
		for _, n := range []int{1, 8191, 8192} {
			if err := Check(api.Op{Kind: 10, Data: long[:n]}); err != api.OK {
				t.Errorf("%d bytes of %q: %d", n, piece, err)
			}
		}
		refused(t, api.Op{Kind: 10, Data: long[:8193]})
		refused(t, api.Op{Kind: 10, Data: long})
	}
}

// P19.1: Admin

func TestAdminOfEveryKind(t *testing.T) {
	everyRightKind(func(kind int) {
		want := kind == 1 || kind == 2 || kind == 3
		for _, tenant := range rightTenants {
			everyRest(api.Op{Kind: kind, Tenant: tenant}, func(o api.Op) {
				if got := Admin(o); got != want {
					t.Fatalf("Admin(%s): %v", say(o), got)
				}
			})
		}
	})
	if Admin(api.Op{Kind: 10, Data: data(8192)}) {
		t.Error("a write")
	}
}

// P19.1: Asks

func TestAsksOfMallocAndRealloc(t *testing.T) {
	for _, kind := range []int{4, 7} {
		for _, tenant := range []int{0, 7} {
			for _, m := range anyNumbers {
				for _, h := range anyHandles {
					for _, n := range sizes {
						asksFor(t, api.Op{Kind: kind, Tenant: tenant, N: n, M: m, Handle: h}, n)
					}
					for _, n := range noSizes {
						asksFor(t, api.Op{Kind: kind, Tenant: tenant, N: n, M: m, Handle: h}, 0)
					}
				}
			}
		}
		for n := 1; n <= 8192; n++ {
			asksFor(t, api.Op{Kind: kind, Tenant: 3, N: n}, n)
		}
	}
}

func TestAsksOfTheOtherKinds(t *testing.T) {
	everyRightKind(func(kind int) {
		if kind == 4 || kind == 5 || kind == 7 {
			return
		}
		everyRest(api.Op{Kind: kind, Tenant: 1}, func(o api.Op) { asksFor(t, o, 0) })
		for _, n := range sizes {
			asksFor(t, api.Op{Kind: kind, N: n, M: 1}, 0)
			asksFor(t, api.Op{Kind: kind, N: 1, M: n}, 0)
		}
	})
}

func TestAsksOfCallocOfAllThatServes(t *testing.T) {
	for n := 1; n <= 8192; n++ {
		for m := 1; n*m <= 8192; m++ {
			asksFor(t, api.Op{Kind: 5, Tenant: 7, N: n, M: m}, n*m)
		}
		// The first one that is too many.
		asksFor(t, api.Op{Kind: 5, Tenant: 7, N: n, M: 8192/n + 1}, 0)
	}
}

// callocAsks asks both ways round, of the first and the last tenant, with any handles.
func callocAsks(t *testing.T, n, m, want int) {
	t.Helper()
	for _, tenant := range []int{0, 7} {
		for _, h := range anyHandles {
			asksFor(t, api.Op{Kind: 5, Tenant: tenant, N: n, M: m, Handle: h}, want)
			asksFor(t, api.Op{Kind: 5, Tenant: tenant, N: m, M: n, Handle: h}, want)
		}
	}
}

func TestAsksOfCallocAtItsEdges(t *testing.T) {
	for _, c := range []struct{ n, m, want int }{
		{1, 1, 1}, {1, 40, 40}, {90, 91, 8190},
		{1, 8192, 8192}, {2, 4096, 8192}, {16, 512, 8192}, {64, 128, 8192},
		{1, 8193, 0}, {3, 2731, 0}, {2, 4097, 0}, {91, 91, 0},
		{1, math.MaxInt, 0},
	} {
		callocAsks(t, c.n, c.m, c.want)
	}
}

func TestAsksOfCallocOfNoneOrFewer(t *testing.T) {
	for _, c := range [][2]int{
		{0, 0}, {0, 1}, {0, 8192}, {0, -1}, {0, math.MaxInt}, {0, math.MinInt},
		// Two below 0: of most of these the product would be served.
		{-1, -1}, {-8, -5}, {-1, -8192}, {-90, -91}, {-1, math.MinInt}, {math.MinInt, math.MinInt}, {-1, math.MinInt + 1}, {math.MinInt + 1, math.MinInt + 1},
		// One below 0, one above.
		{-1, 1}, {-3, 100}, {3, -100}, {-1, 8192}, {math.MinInt, 1}, {math.MinInt, math.MaxInt}, {-1, math.MaxInt},
	} {
		callocAsks(t, c[0], c[1], 0)
	}
}

// TestAsksOfCallocWrappedRound: numbers whose product is beyond what an int holds, and what it wraps round to.
func TestAsksOfCallocWrappedRound(t *testing.T) {
	for _, c := range []struct{ n, m, wraps int }{
		{1 << 32, 1 << 32, 0}, {1 << 62, 4, 0}, {1 << 62, 8192, 0}, {1 << 62, 1 << 62, 0}, {1 << 60, 16, 0},
		// What would be asked for.
		{math.MaxInt, math.MaxInt, 1}, {3, 6148914691236517206, 2}, {1<<61 + 5, 8, 40}, {1<<60 + 3, 16, 48}, {1<<62 + 75, 4, 300}, {1<<51 + 1, 8192, 8192},
		{11, 3353953467947191203, 1}, {13, 5675921253449092805, 1},
		// Beyond that, and below 0.
		{1<<61 + 1025, 8, 8200}, {math.MaxInt, 3, math.MaxInt - 2}, {math.MaxInt, 2, -2}, {1 << 62, 2, math.MinInt}, {1 << 32, 1 << 31, math.MinInt}, {1 << 62, 3, -1 << 62},
		// One or two that are below 0.
		{math.MinInt, 2, 0}, {math.MinInt + 20, 2, 40}, {math.MinInt + 1, math.MinInt + 1, 1}, {math.MinInt, -1, math.MinInt},
	} {
		if got := c.n * c.m; got != c.wraps {
			t.Errorf("%d times %d is %d here, not %d", c.n, c.m, got, c.wraps)
		}
		callocAsks(t, c.n, c.m, 0)
	}
}

// TestAsksOfCallocNearPowersOfTwo: whatever a product would wrap round to, it isn't asked for.
func TestAsksOfCallocNearPowersOfTwo(t *testing.T) {
	for shift := range 63 {
		for _, n := range []int{1 << shift, 1<<shift + 1, 1<<shift - 1, -1 << shift} {
			for other := range 63 {
				for _, m := range []int{1 << other, 1<<other + 1, 1<<other - 1, -1 << other} {
					holds(t, api.Op{Kind: 5, N: n, M: m})
				}
			}
			for _, m := range sizes {
				holds(t, api.Op{Kind: 5, N: n, M: m})
				holds(t, api.Op{Kind: 5, N: m, M: n})
			}
		}
	}
}

func TestAsksOfWhatMayNotBe(t *testing.T) {
	for _, kind := range []int{4, 5, 7} {
		for _, n := range sizes {
			for _, tenant := range wrongTenants {
				refused(t, api.Op{Kind: kind, Tenant: tenant, N: n, M: 1})
			}
			refused(t, api.Op{Kind: kind, N: n, M: 1, Data: "x"})
			refused(t, api.Op{Kind: kind, N: 1, M: n, Data: data(8192)})
		}
	}
}

// All three calls, of each choice of right and wrong parts.
func TestEveryChoiceOfParts(t *testing.T) {
	kinds := append([]int{1, 2, 3, 4, 5, 6, 7, 8, 9, 10, 11}, 0, 12, -1, math.MinInt, math.MaxInt)
	tenants := []int{0, 7, -1, 8, math.MinInt, math.MaxInt}
	texts := []string{"", "x", data(8192), data(8193)}
	for _, kind := range kinds {
		for _, tenant := range tenants {
			for _, text := range texts {
				everyRest(api.Op{Kind: kind, Tenant: tenant, Data: text}, func(o api.Op) { holds(t, o) })
			}
		}
	}
}

func TestManyOperations(t *testing.T) {
	r := rand.New(rand.NewSource(19))
	number := func() int {
		switch r.Intn(4) {
		case 0:
			return r.Intn(100)
		case 1:
			return r.Intn(9000) - 200
		case 2:
			return int(r.Uint64()) >> r.Intn(64)
		}
		return sizes[r.Intn(len(sizes))]
	}
	text := data(8200)
	for range 1 << 18 {
		o := api.Op{Kind: r.Intn(14) - 1, Tenant: r.Intn(10) - 1, N: number(), M: number(), Handle: r.Uint64()}
		if r.Intn(4) == 0 {
			o.Data = text[:r.Intn(len(text)+1)]
		}
		holds(t, o)
	}
}

func TestNoOperation(t *testing.T) {
	refused(t, api.Op{})
}

// P19.2

func TestWordOfEachKind(t *testing.T) {
	for kind := -100; kind <= 300; kind++ {
		if got := Word(kind); got != wordOf[kind] {
			t.Errorf("Word(%d): %q, want %q", kind, got, wordOf[kind])
		}
	}
	for _, kind := range wrongKinds {
		if got := Word(kind); got != "" {
			t.Errorf("Word(%d): %q", kind, got)
		}
	}
}

func TestKindOfEachWord(t *testing.T) {
	for kind, word := range wordOf {
		if got := Kind(word); got != kind {
			t.Errorf("Kind(%q): %d, want %d", word, got, kind)
		}
		// The same bytes in a text of its own.
		if got := Kind(strings.Clone(word)); got != kind {
			t.Errorf("Kind(%q): %d, want %d", word, got, kind)
		}
		if got := Kind(Word(kind)); got != kind {
			t.Errorf("Kind(Word(%d)): %d", kind, got)
		}
	}
}

// isNearWord holds a text that is almost a word against all words.
func isNearWord(t *testing.T, text string) {
	t.Helper()
	want := 0
	for kind, word := range wordOf {
		if word == text {
			want = kind
		}
	}
	if got := Kind(text); got != want {
		t.Errorf("Kind(%q): %d, want %d", text, got, want)
	}
}

func TestWordsInOtherLetters(t *testing.T) {
	for _, word := range wordOf {
		isNearWord(t, strings.ToUpper(word))
		// Each choice of great letters.
		for set := range 1 << len(word) {
			b := []byte(word)
			for i := range b {
				if set>>i&1 != 0 {
					b[i] -= 'a' - 'A'
				}
			}
			isNearWord(t, string(b))
		}
	}
}

func TestWordsOneByteApart(t *testing.T) {
	for _, word := range wordOf {
		for i := range len(word) + 1 {
			for b := range 256 {
				isNearWord(t, word[:i]+string([]byte{byte(b)})+word[i:])
				if i < len(word) {
					isNearWord(t, word[:i]+string([]byte{byte(b)})+word[i+1:])
				}
			}
		}
	}
}

func TestWordsWithBlanks(t *testing.T) {
	for _, word := range wordOf {
		for _, blank := range []string{" ", "  ", "\t", "\n", "\r\n", "\x00", "\u00a0"} {
			for _, text := range []string{blank + word, word + blank, blank + word + blank, word[:2] + blank + word[2:]} {
				isNearWord(t, text)
				if Kind(text) != 0 {
					t.Errorf("%q", text)
				}
			}
		}
	}
}

func TestPartsOfWords(t *testing.T) {
	for _, word := range wordOf {
		for i := range len(word) {
			for j := i; j <= len(word); j++ {
				isNearWord(t, word[i:j])
			}
		}
	}
}

func TestWordsTwoInARow(t *testing.T) {
	for _, a := range wordOf {
		for _, b := range wordOf {
			isNearWord(t, a+b)
			isNearWord(t, a+" "+b)
		}
	}
}

func TestTextsThatAreNoWords(t *testing.T) {
	for _, text := range []string{
		"", " ", "\x00", "\xff", "\xff\xfe", "0", "4", "dance", "x", "mallocs", "allocate", "alloc", "new", "none", "delete", "calloc!",
		"mal\xffloc", "m\u0430lloc", "OpMalloc", "ErrBadOp", "create resize destroy", strings.Repeat("malloc", 10000), data(1 << 20),
	} {
		if got := Kind(text); got != 0 {
			t.Errorf("Kind of %.40q: %d", text, got)
		}
	}
}

// The chapter's examples.

func TestExamples(t *testing.T) {
	if err := Check(api.Op{Kind: 4, Tenant: 7, N: -5}); err != api.OK {
		t.Error(err)
	}
	if err := Check(api.Op{Kind: 4, Data: "x"}); err != api.ErrBadOp {
		t.Error(err)
	}
	if got := Word(9); got != "read" {
		t.Error(got)
	}
	if got := Kind("Read"); got != 0 {
		t.Error(got)
	}
	asksFor(t, api.Op{Kind: api.OpCalloc, N: 3, M: 100}, 300)
	asksFor(t, api.Op{Kind: api.OpCalloc, N: 3, M: 4000}, 0)
	// The last of the examples of the whole.
	refused(t, api.Op{Kind: 12})
}
