// Package num is layer 1: see shared/doc/01-num.md.
package num

import (
	"dockmaster/api"
)

const (
	longest = 10   // bytes of a number of 64 bits
	more    = 0x80 // the bit that says that more bytes follow
)

// Put lays a number behind bytes: seven bits a byte, the lowest first.
func Put(b []byte, n uint64) []byte {
	return lay(apart(b, longest), n)
}

// Text lays a text with its length ahead.
func Text(b []byte, s string) []byte {
	out := lay(apart(b, longest+len(s)), uint64(len(s)))
	return append(out, s...)
}

// Tid lays a transaction.
func Tid(b []byte, t api.Tid) []byte {
	out := lay(apart(b, 2*longest), t.Num)
	return lay(out, uint64(t.Node))
}

// apart copies bytes, with room behind them: an append to those handed in might write to memory that isn't ours.
func apart(b []byte, room int) []byte {
	return append(make([]byte, 0, len(b)+room), b...)
}

func lay(b []byte, n uint64) []byte {
	for n >= more {
		b = append(b, byte(n)|more)
		n >>= 7
	}
	return append(b, byte(n))
}

// Reader takes what was laid from bytes; once something can't be read nothing can.
type Reader struct {
	rest []byte
	err  api.Errno
}

// Read is a reader of bytes.
func Read(b []byte) *Reader {
	return &Reader{rest: apart(b, 0)}
}

// Err is why nothing can be read.
func (r *Reader) Err() api.Errno {
	if r == nil {
		return api.ErrArg
	}
	return r.err
}

// Left is how many bytes are left.
func (r *Reader) Left() int {
	if r == nil {
		return 0
	}
	return len(r.rest)
}

// Num is the next number, up to a bound.
func (r *Reader) Num(most uint64) uint64 {
	if r.Err() != api.OK {
		return 0
	}
	n, size, err := first(r.rest)
	if err == api.OK && n > most {
		err = api.ErrMany
	}
	if err != api.OK {
		r.fail(err)
		return 0
	}
	r.rest = r.rest[size:]
	return n
}

// Text is the next text, of so many bytes at most.
func (r *Reader) Text(most int) string {
	n := r.Num(uint64(max(most, 0)))
	if r.Err() != api.OK {
		return ""
	}
	if n > uint64(len(r.rest)) {
		r.fail(api.ErrShort)
		return ""
	}
	s := string(r.rest[:n])
	r.rest = r.rest[n:]
	return s
}

// Tid is the next transaction.
func (r *Reader) Tid() api.Tid {
	n := r.Num(api.MaxTid)
	node := r.Num(api.MaxNodes - 1)
	if r.Err() != api.OK {
		return api.Tid{}
	}
	return api.Tid{Num: n, Node: int(node)}
}

// End is whether all was read, and nothing is left.
func (r *Reader) End() api.Errno {
	if err := r.Err(); err != api.OK {
		return err
	}
	if len(r.rest) > 0 {
		return api.ErrForm
	}
	return api.OK
}

// fail lets go of the bytes, too: none of them counts as left any more.
func (r *Reader) fail(err api.Errno) {
	r.rest, r.err = nil, err
}

// first is the number with which bytes begin, and how many of them it takes.
func first(b []byte) (uint64, int, api.Errno) {
	n := uint64(0)
	for i, c := range b {
		// Of 64 bits one is left for the tenth byte: this also bounds the shift.
		if i == longest-1 && c > 1 {
			return 0, 0, api.ErrForm
		}
		n |= uint64(c&^more) << (7 * i)
		if c&more != 0 {
			continue
		}
		if c == 0 && i > 0 {
			return 0, 0, api.ErrForm
		}
		return n, i + 1, api.OK
	}
	return 0, 0, api.ErrShort
}
