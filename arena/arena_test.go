package arena

import (
	"math"
	"slices"
	"strings"
	"testing"

	"garth/api"
)

// far are numbers that no arena has a byte at, and no arena has so many bytes.
var far = []int{-1, -2, -8, math.MinInt, math.MinInt + 1, math.MinInt + 8, 1<<21 + 1, math.MaxInt32, math.MaxInt - 8, math.MaxInt - 7, math.MaxInt - 1, math.MaxInt}

func newArena(t *testing.T, size int) *Arena {
	t.Helper()
	a, e := New(size)
	if e != api.OK || a == nil {
		t.Fatalf("New(%d): %v, %v", size, a, e)
	}
	return a
}

// filled: an arena of these bytes, without touches.
func filled(t *testing.T, bytes string) *Arena {
	t.Helper()
	a := newArena(t, len(bytes))
	wantErr(t, "Write", a.Write(0, bytes), api.OK)
	a.Forget()
	return a
}

func wantErr(t *testing.T, what string, got, want api.Errno) {
	t.Helper()
	if got != want {
		t.Fatalf("%s: answered %d, not %d", what, got, want)
	}
}

func wantTouches(t *testing.T, a *Arena, want ...api.Span) {
	t.Helper()
	if got := a.Touched(); !slices.Equal(got, want) {
		t.Fatalf("Touched: %v, not %v", got, want)
	}
}

// wantBytes looks at the field itself, so that no touch is noted.
func wantBytes(t *testing.T, a *Arena, want string) {
	t.Helper()
	if string(a.bytes) != want {
		t.Fatalf("bytes: %x, not %x", a.bytes, want)
	}
}

// P1.1

func TestNewSizes(t *testing.T) {
	for _, size := range []int{0, 1, 7, 8, 9, 511, 512, 513, 1<<21 - 1, 1 << 21} {
		a := newArena(t, size)
		if a.Size() != size {
			t.Fatalf("Size of New(%d): %d", size, a.Size())
		}
		wantTouches(t, a)
		s, e := a.Read(0, size)
		wantErr(t, "Read of all", e, api.OK)
		if s != strings.Repeat("\x00", size) {
			t.Fatalf("New(%d): a byte is not 0", size)
		}
	}
}

func TestNewRefuses(t *testing.T) {
	for _, size := range far {
		if a, e := New(size); a != nil || e != api.ErrArg {
			t.Fatalf("New(%d): %v, %d", size, a, e)
		}
	}
}

func TestSizeStays(t *testing.T) {
	a := newArena(t, 16)
	a.Write(0, "0123456789abcdef")
	a.Write(16, "x")
	a.Copy(8, 0, 8)
	a.Zero(0, 16)
	a.Forget()
	if a.Size() != 16 {
		t.Fatal(a.Size())
	}
}

func TestTwoArenasNeverMeet(t *testing.T) {
	a, b := newArena(t, 8), newArena(t, 8)
	a.Write(0, "abcdefgh")
	wantBytes(t, b, "\x00\x00\x00\x00\x00\x00\x00\x00")
	wantTouches(t, b)
	b.Forget()
	wantTouches(t, a, api.Span{At: 0, N: 8, Wrote: true})
}

// P1.2

func TestWordsLowestByteFirst(t *testing.T) {
	a := newArena(t, 17)
	for at := range 10 {
		for _, v := range []uint64{0x0102030405060708, 0, 1, 1 << 63, 0xfedcba9876543210, math.MaxUint64} {
			wantErr(t, "Store", a.Store(at, v), api.OK)
			for i := range 8 {
				if a.bytes[at+i] != byte(v>>(8*i)) {
					t.Fatalf("Store(%d, %x): byte %d is %x", at, v, i, a.bytes[at+i])
				}
			}
			if got, e := a.Load(at); got != v || e != api.OK {
				t.Fatalf("Load(%d): %x, %d, not %x", at, got, e, v)
			}
		}
	}
}

func TestLoadOfWrittenBytes(t *testing.T) {
	a := filled(t, "\x00\x01\x02\x03\x04\x05\x06\x07\x80\xff")
	for at, want := range []uint64{0x0706050403020100, 0x8007060504030201, 0xff80070605040302} {
		if got, e := a.Load(at); got != want || e != api.OK {
			t.Fatalf("Load(%d): %x, %d, not %x", at, got, e, want)
		}
	}
}

func TestStoreLeavesItsNeighbours(t *testing.T) {
	a := filled(t, "0123456789abcdef")
	wantErr(t, "Store", a.Store(3, 0x4142434445464748), api.OK)
	wantBytes(t, a, "012HGFEDCBAbcdef")
}

func TestWordsNeedEightBytes(t *testing.T) {
	for size := range 20 {
		a := newArena(t, size)
		for at := -1; at <= size+1; at++ {
			want := api.ErrRange
			if at >= 0 && at+8 <= size {
				want = api.OK
			}
			_, e := a.Load(at)
			wantErr(t, "Load", e, want)
			wantErr(t, "Store", a.Store(at, 1), want)
		}
	}
}

// TestAgainstPlainBytes holds every at and n about a small arena's edges against the same done by hand.
func TestAgainstPlainBytes(t *testing.T) {
	const bytes = "abcdef"
	for at := -2; at <= len(bytes)+2; at++ {
		for n := -2; n <= len(bytes)+2; n++ {
			if at < 0 || n < 0 || at+n > len(bytes) {
				refuses(t, filled(t, bytes), at, n)
			} else {
				takes(t, bytes, at, n)
			}
		}
	}
}

// refuses: all calls of n bytes from at on answer ErrRange, and nothing is done.
func refuses(t *testing.T, a *Arena, at, n int) {
	t.Helper()
	before := string(a.bytes)
	if s, e := a.Read(at, n); s != "" || e != api.ErrRange {
		t.Fatalf("Read(%d, %d): %q, %d", at, n, s, e)
	}
	wantErr(t, "Zero", a.Zero(at, n), api.ErrRange)
	wantErr(t, "Copy to", a.Copy(at, 0, n), api.ErrRange)
	wantErr(t, "Copy from", a.Copy(0, at, n), api.ErrRange)
	if n >= 0 && n < 16 {
		wantErr(t, "Write", a.Write(at, strings.Repeat("x", n)), api.ErrRange)
	}
	wantBytes(t, a, before)
	wantTouches(t, a)
}

func takes(t *testing.T, bytes string, at, n int) {
	t.Helper()
	a := filled(t, bytes)
	if s, e := a.Read(at, n); s != bytes[at:at+n] || e != api.OK {
		t.Fatalf("Read(%d, %d): %q, %d", at, n, s, e)
	}
	wantBytes(t, a, bytes)
	wantErr(t, "Zero", a.Zero(at, n), api.OK)
	wantBytes(t, a, bytes[:at]+strings.Repeat("\x00", n)+bytes[at+n:])
	wantErr(t, "Write", a.Write(at, strings.Repeat("\xee", n)), api.OK)
	wantBytes(t, a, bytes[:at]+strings.Repeat("\xee", n)+bytes[at+n:])
}

func TestCopyWherePlacesLieOverOneAnother(t *testing.T) {
	const bytes = "abcdefgh"
	for to := range len(bytes) + 1 {
		for from := range len(bytes) + 1 {
			for n := range len(bytes) - max(to, from) + 1 {
				a := filled(t, bytes)
				wantErr(t, "Copy", a.Copy(to, from, n), api.OK)
				wantBytes(t, a, bytes[:to]+bytes[from:from+n]+bytes[to+n:])
			}
		}
	}
}

func TestCopyNeedsBothPlaces(t *testing.T) {
	a := filled(t, "abcdefgh")
	for _, c := range [][3]int{{0, 5, 4}, {5, 0, 4}, {5, 5, 4}, {0, 9, 0}, {9, 0, 0}, {0, -1, 1}, {-1, 0, 1}, {0, 0, -1}, {0, 0, 9}} {
		wantErr(t, "Copy", a.Copy(c[0], c[1], c[2]), api.ErrRange)
	}
	wantBytes(t, a, "abcdefgh")
	wantTouches(t, a)
}

func TestFarNumbersAreRefused(t *testing.T) {
	for _, size := range []int{0, 1, 8, 64, 1 << 21} {
		a := newArena(t, size)
		for _, x := range far {
			if v, e := a.Load(x); v != 0 || e != api.ErrRange {
				t.Fatalf("Load(%d): %d, %d", x, v, e)
			}
			wantErr(t, "Store", a.Store(x, 1), api.ErrRange)
			for _, y := range append([]int{0, 1, 8, size}, far...) {
				refuses(t, a, x, y)
				refuses(t, a, y, x)
			}
		}
	}
}

func TestNoBytesAtTheSize(t *testing.T) {
	for _, size := range []int{0, 1, 16, 1 << 21} {
		a := newArena(t, size)
		if s, e := a.Read(size, 0); s != "" || e != api.OK {
			t.Fatalf("Read(%d, 0): %q, %d", size, s, e)
		}
		wantErr(t, "Write", a.Write(size, ""), api.OK)
		wantErr(t, "Zero", a.Zero(size, 0), api.OK)
		wantErr(t, "Copy", a.Copy(size, size, 0), api.OK)
		wantTouches(t, a)
		refuses(t, a, size+1, 0)
		refuses(t, a, size, 1)
	}
}

func TestGreatestArenaToItsLastByte(t *testing.T) {
	const size = 1 << 21
	a := newArena(t, size)
	wantErr(t, "Store", a.Store(size-8, math.MaxUint64), api.OK)
	wantErr(t, "Store", a.Store(size-7, 0), api.ErrRange)
	wantErr(t, "Copy", a.Copy(0, size-1, 1), api.OK)
	if s, e := a.Read(0, 2); s != "\xff\x00" || e != api.OK {
		t.Fatalf("%x, %d", s, e)
	}
	wantErr(t, "Zero", a.Zero(0, size), api.OK)
	if v, e := a.Load(size - 8); v != 0 || e != api.OK {
		t.Fatal(v, e)
	}
}

func TestWhatWasReadStays(t *testing.T) {
	a := filled(t, "abcd")
	s, _ := a.Read(0, 4)
	a.Write(0, "efgh")
	if s != "abcd" {
		t.Fatal(s)
	}
}

// P1.3

func TestEachCallIsNoted(t *testing.T) {
	a := newArena(t, 32)
	a.Load(1)
	a.Store(2, 9)
	a.Read(3, 4)
	a.Write(5, "abc")
	a.Zero(6, 7)
	a.Copy(20, 10, 5)
	a.Copy(4, 4, 1)
	wantTouches(t, a,
		api.Span{At: 1, N: 8},
		api.Span{At: 2, N: 8, Wrote: true},
		api.Span{At: 3, N: 4},
		api.Span{At: 5, N: 3, Wrote: true},
		api.Span{At: 6, N: 7, Wrote: true},
		api.Span{At: 10, N: 5},
		api.Span{At: 20, N: 5, Wrote: true},
		api.Span{At: 4, N: 1},
		api.Span{At: 4, N: 1, Wrote: true},
	)
}

func TestSameTouchIsNotedEachTime(t *testing.T) {
	a := newArena(t, 8)
	for range 3 {
		a.Load(0)
	}
	wantTouches(t, a, api.Span{At: 0, N: 8}, api.Span{At: 0, N: 8}, api.Span{At: 0, N: 8})
}

func TestNoBytesAreNotNoted(t *testing.T) {
	a := newArena(t, 16)
	a.Read(3, 0)
	a.Write(3, "")
	a.Zero(3, 0)
	a.Copy(3, 5, 0)
	wantTouches(t, a)
}

func TestRefusedIsNotNoted(t *testing.T) {
	a := newArena(t, 16)
	a.Read(0, 1)
	a.Load(9)
	a.Store(9, 1)
	a.Read(16, 1)
	a.Write(15, "ab")
	a.Zero(0, 17)
	a.Copy(0, 9, 8)
	a.Copy(9, 0, 8)
	a.Size()
	wantTouches(t, a, api.Span{At: 0, N: 1})
}

func TestTouchedForgetsNothing(t *testing.T) {
	a := newArena(t, 16)
	a.Read(0, 1)
	wantTouches(t, a, api.Span{At: 0, N: 1})
	wantTouches(t, a, api.Span{At: 0, N: 1})
	a.Zero(2, 3)
	wantTouches(t, a, api.Span{At: 0, N: 1}, api.Span{At: 2, N: 3, Wrote: true})
}

func TestForgetLeavesTheBytes(t *testing.T) {
	a := newArena(t, 4)
	a.Write(0, "abcd")
	a.Forget()
	wantTouches(t, a)
	wantBytes(t, a, "abcd")
	a.Forget()
	a.Read(1, 2)
	wantTouches(t, a, api.Span{At: 1, N: 2})
}

func TestTouchedIsNewMemory(t *testing.T) {
	a := newArena(t, 16)
	a.Read(0, 1)
	a.Read(0, 2)
	a.Read(0, 3)
	first := a.Touched()
	first[0] = api.Span{At: 7, N: 7, Wrote: true}
	_ = append(first[:1], api.Span{At: 8, N: 8, Wrote: true})
	_ = append(first, api.Span{At: 9, N: 9, Wrote: true})
	wantTouches(t, a, api.Span{At: 0, N: 1}, api.Span{At: 0, N: 2}, api.Span{At: 0, N: 3})

	kept := a.Touched()
	a.Forget()
	a.Zero(4, 4)
	if !slices.Equal(kept, []api.Span{{At: 0, N: 1}, {At: 0, N: 2}, {At: 0, N: 3}}) {
		t.Fatal(kept)
	}
}

// P1.4

func TestNilArena(t *testing.T) {
	var a *Arena
	if a.Size() != 0 || len(a.Touched()) != 0 {
		t.Fatal(a.Size(), a.Touched())
	}
	a.Forget()
	for _, x := range append([]int{0, 1, 8}, far...) {
		if v, e := a.Load(x); v != 0 || e != api.ErrNil {
			t.Fatalf("Load(%d): %d, %d", x, v, e)
		}
		if s, e := a.Read(x, x); s != "" || e != api.ErrNil {
			t.Fatalf("Read(%d): %q, %d", x, s, e)
		}
		wantErr(t, "Store", a.Store(x, 1), api.ErrNil)
		wantErr(t, "Write", a.Write(x, "ab"), api.ErrNil)
		wantErr(t, "Write of nothing", a.Write(x, ""), api.ErrNil)
		wantErr(t, "Zero", a.Zero(x, x), api.ErrNil)
		wantErr(t, "Copy", a.Copy(x, x, x), api.ErrNil)
	}
}

// An Arena that New did not make has no bytes at first.
func TestZeroArena(t *testing.T) {
	var a Arena
	if a.Size() != 0 {
		t.Fatal(a.Size())
	}
	if s, e := a.Read(0, 0); s != "" || e != api.OK {
		t.Fatal(s, e)
	}
	refuses(t, &a, 0, 1)
}

// The chapter's examples.
func TestExamples(t *testing.T) {
	a := newArena(t, 16)
	wantErr(t, "Store", a.Store(8, 0x0102), api.OK)
	if s, e := a.Read(8, 2); s != "\x02\x01" || e != api.OK {
		t.Fatalf("%x, %d", s, e)
	}
	if v, e := a.Load(9); v != 0 || e != api.ErrRange {
		t.Fatal(v, e)
	}
	a.Forget()
	if s, e := a.Read(16, 0); s != "" || e != api.OK {
		t.Fatalf("%x, %d", s, e)
	}
	wantTouches(t, a)
	a.Write(0, "\x01\x02\x03\x04")
	wantErr(t, "Copy", a.Copy(1, 0, 3), api.OK)
	if s, e := a.Read(0, 4); s != "\x01\x01\x02\x03" || e != api.OK {
		t.Fatalf("%x, %d", s, e)
	}
}
