// Package pen is layer 1: numbers and texts as bytes. See shared/doc/01-pen.md.
package pen

import (
	"math"

	"granger/api"
)

// maxText is the most bytes that a text can have: how many they are is told by one byte.
const maxText = 255

// isWidth tells whether a number can have so many bytes.
func isWidth(width int) bool {
	return width == 1 || width == 2 || width == 4 || width == 8
}

// fits tells whether n can be of that width. Of 8 bytes any number from 0 on can.
func fits(width, n int) bool {
	return n >= 0 && (width == 8 || n>>(8*width) == 0)
}

// Out writes. An empty one is ready.
type Out struct {
	bytes []byte
}

// Num writes the numbers with so many bytes each, the highest first; ErrArg, and nothing is written, if the width or one of them can't be.
func (o *Out) Num(width int, list ...int) api.Errno {
	if o == nil {
		return api.ErrNil
	}
	if !isWidth(width) {
		return api.ErrArg
	}
	for _, n := range list {
		if !fits(width, n) {
			return api.ErrArg
		}
	}
	for _, n := range list {
		o.number(width, n)
	}
	return api.OK
}

// number writes one number of a width that was looked at.
func (o *Out) number(width, n int) {
	for shift := 8 * (width - 1); shift >= 0; shift -= 8 {
		o.bytes = append(o.bytes, byte(n>>shift))
	}
}

// Text writes the texts, each behind its length; ErrArg, and nothing is written, if one of them is too long.
func (o *Out) Text(list ...string) api.Errno {
	if o == nil {
		return api.ErrNil
	}
	for _, s := range list {
		if len(s) > maxText {
			return api.ErrArg
		}
	}
	for _, s := range list {
		o.number(1, len(s))
		o.Raw(s)
	}
	return api.OK
}

// Raw writes the bytes of s as they are.
func (o *Out) Raw(s string) {
	if o == nil {
		return
	}
	o.bytes = append(o.bytes, s...)
}

// Bytes tells all that was written.
func (o *Out) Bytes() string {
	if o == nil {
		return ""
	}
	return string(o.bytes)
}

// Len tells how many bytes were written.
func (o *Out) Len() int {
	if o == nil {
		return 0
	}
	return len(o.bytes)
}

// In reads. With the first thing that is wrong it is done.
type In struct {
	rest string
	err  api.Errno
}

// Of reads s from its first byte on.
func Of(s string) *In {
	return &In{rest: s}
}

// fail ends the reading: no byte is left, so that whatever is asked for later isn't there either.
func (i *In) fail() {
	i.rest = ""
	i.err = api.ErrForm
}

// Num reads the next number of that width.
func (i *In) Num(width int) int {
	if i == nil {
		return 0
	}
	if !isWidth(width) {
		i.fail()
		return 0
	}
	var n uint64
	for _, b := range []byte(i.Raw(width)) {
		n = n<<8 | uint64(b)
	}
	if n > math.MaxInt64 {
		i.fail()
		return 0
	}
	return int(n)
}

// Text reads the next text, which may have so many bytes at most.
func (i *In) Text(most int) string {
	if i == nil {
		return ""
	}
	size := i.Num(1)
	if size > most {
		i.fail()
		return ""
	}
	return i.Raw(size)
}

// Raw reads the next n bytes.
func (i *In) Raw(n int) string {
	if i == nil {
		return ""
	}
	if n < 0 || n > len(i.rest) {
		i.fail()
		return ""
	}
	s := i.rest[:n]
	i.rest = i.rest[n:]
	return s
}

// Left tells how many bytes are left.
func (i *In) Left() int {
	if i == nil {
		return 0
	}
	return len(i.rest)
}

// Err tells ErrForm once something was wrong.
func (i *In) Err() api.Errno {
	if i == nil {
		return api.ErrNil
	}
	return i.err
}

// End tells Err, or ErrForm if bytes are left.
func (i *In) End() api.Errno {
	if i == nil {
		return api.ErrNil
	}
	if len(i.rest) > 0 {
		return api.ErrForm
	}
	return i.err
}
