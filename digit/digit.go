// Package digit is layer 1: see shared/doc/01-digit.md.
package digit

import (
	"bytes"

	"interleaf/api"
)

const (
	base   = 128
	width  = 7 // bits of a digit
	digits = 9 // the greatest int has so many
)

// Pen lays numbers, texts and bytes, one behind the other. Its zero value has none.
type Pen struct {
	P []byte
}

// Num lays a number from 0 on: its digits of base 128, the lowest first; the last one has 128 more.
func (w *Pen) Num(n int) *Pen {
	for n >= base {
		w.P = append(w.P, byte(n%base))
		n /= base
	}
	w.P = append(w.P, byte(n)+base)
	return w
}

// Text lays how many bytes a text has, and they.
func (w *Pen) Text(s string) *Pen {
	w.Num(len(s))
	w.P = append(w.P, s...)
	return w
}

// Raw lays bytes.
func (w *Pen) Raw(p []byte) *Pen {
	w.P = append(w.P, p...)
	return w
}

// Eye takes what a Pen has laid; behind the first fault all is 0, or none.
type Eye struct {
	rest  []byte
	fault api.Errno
}

// NewEye is an Eye on some bytes. It has a copy, as the caller may write over its own.
func NewEye(p []byte) *Eye {
	return &Eye{rest: bytes.Clone(p)}
}

// Num takes a number of at most so much. ErrShort: the bytes end; ErrForm: a Pen lays it otherwise; ErrLong: it is greater.
func (x *Eye) Num(most int) int {
	if x.Fault() != api.OK {
		return 0
	}
	n, size, e := number(x.rest)
	if e == api.OK && n > max(most, 0) {
		e = api.ErrLong
	}
	if e != api.OK {
		x.Fail(e)
		return 0
	}
	x.rest = x.rest[size:]
	return n
}

// number tells what number bytes begin with, and how many of them it has.
func number(p []byte) (n, size int, e api.Errno) {
	for i, b := range p {
		switch {
		case i == digits:
			return 0, 0, api.ErrForm
		case b < base:
			n += int(b) << (width * i)
		case b == base && i > 0: // a Pen lays no noughts on top
			return 0, 0, api.ErrForm
		default:
			return n + int(b-base)<<(width*i), i + 1, api.OK
		}
	}
	return 0, 0, api.ErrShort
}

// Text takes a text of at most so many bytes.
func (x *Eye) Text(most int) string {
	return string(x.take(x.Num(most)))
}

// Raw takes so many bytes. They are a copy, as the caller may write over them.
func (x *Eye) Raw(n int) []byte {
	return bytes.Clone(x.take(n))
}

// take goes on by n bytes and answers the Eye's own; ErrShort: there are fewer.
func (x *Eye) take(n int) []byte {
	if n < 1 || x.Fault() != api.OK {
		return nil
	}
	if n > len(x.rest) {
		x.Fail(api.ErrShort)
		return nil
	}
	p := x.rest[:n]
	x.rest = x.rest[n:]
	return p
}

// Fail is a fault, unless there was one ahead of it. OK is none.
func (x *Eye) Fail(e api.Errno) {
	if e != api.OK && x.Fault() == api.OK {
		x.fault = e
		x.rest = nil
	}
}

// Fault tells the first fault.
func (x *Eye) Fault() api.Errno {
	if x == nil {
		return api.ErrNone
	}
	return x.fault
}

// Left tells how many bytes are left.
func (x *Eye) Left() int {
	if x == nil {
		return 0
	}
	return len(x.rest)
}

// End tells the first fault; ErrForm: something is left.
func (x *Eye) End() api.Errno {
	if x.Left() > 0 {
		return api.ErrForm
	}
	return x.Fault()
}
