// Package arena is layer 1: see shared/doc/01-arena.md.
package arena

import (
	"slices"

	"garth/api"
)

const (
	maxSize  = api.MaxPages * api.PageSize
	wordSize = 8
)

// Arena: bytes, of which each touch is noted.
type Arena struct {
	bytes   []byte
	touches []api.Span
}

// New: so many bytes, all 0.
func New(size int) (*Arena, api.Errno) {
	if size < 0 || size > maxSize {
		return nil, api.ErrArg
	}
	return &Arena{bytes: make([]byte, size)}, api.OK
}

// Size: how many bytes there are.
func (a *Arena) Size() int {
	if a == nil {
		return 0
	}
	return len(a.bytes)
}

// Load: a word.
func (a *Arena) Load(at int) (uint64, api.Errno) {
	var v uint64
	if a == nil {
		return 0, api.ErrNil
	}
	if !a.there(at, wordSize) {
		goto refused
	}
	for i := range wordSize {
		v |= uint64(a.bytes[at+i]) << (8 * i)
	}
	a.note(at, wordSize, false)
	return v, api.OK
refused:
	return 0, api.ErrRange
}

// Store: a word is put there.
func (a *Arena) Store(at int, v uint64) api.Errno {
	if a == nil {
		return api.ErrNil
	}
	if !a.there(at, wordSize) {
		goto refused
	}
	for i := range wordSize {
		a.bytes[at+i] = byte(v >> (8 * i))
	}
	a.note(at, wordSize, true)
	return api.OK
refused:
	return api.ErrRange
}

// Read: bytes.
func (a *Arena) Read(at, n int) (string, api.Errno) {
	if a == nil {
		return "", api.ErrNil
	}
	if !a.there(at, n) {
		goto refused
	}
	a.note(at, n, false)
	return string(a.bytes[at : at+n]), api.OK
refused:
	return "", api.ErrRange
}

// Write: bytes are put there.
func (a *Arena) Write(at int, data string) api.Errno {
	if a == nil {
		return api.ErrNil
	}
	if !a.there(at, len(data)) {
		goto refused
	}
	copy(a.bytes[at:], data)
	a.note(at, len(data), true)
	return api.OK
refused:
	return api.ErrRange
}

// Zero: bytes are 0.
func (a *Arena) Zero(at, n int) api.Errno {
	if a == nil {
		return api.ErrNil
	}
	if !a.there(at, n) {
		goto refused
	}
	clear(a.bytes[at : at+n])
	a.note(at, n, true)
	return api.OK
refused:
	return api.ErrRange
}

// Copy: bytes are put elsewhere, too.
func (a *Arena) Copy(to, from, n int) api.Errno {
	if a == nil {
		return api.ErrNil
	}
	if !a.there(to, n) || !a.there(from, n) {
		goto refused
	}
	// The built-in copy minds places that lie over one another.
	copy(a.bytes[to:to+n], a.bytes[from:from+n])
	a.note(from, n, false)
	a.note(to, n, true)
	return api.OK
refused:
	return api.ErrRange
}

// Touched: what was touched.
func (a *Arena) Touched() []api.Span {
	if a == nil {
		return nil
	}
	return slices.Clone(a.touches)
}

// Forget: nothing was touched.
func (a *Arena) Forget() {
	if a == nil {
		return
	}
	a.touches = nil
}

// there holds n against what is left behind at, since at+n may wrap round.
func (a *Arena) there(at, n int) bool {
	return at >= 0 && n >= 0 && n <= len(a.bytes)-at
}

// note leaves out touches of no bytes: whoever asks for none touches nothing.
func (a *Arena) note(at, n int, wrote bool) {
	if n > 0 {
		a.touches = append(a.touches, api.Span{At: at, N: n, Wrote: wrote})
	}
}
