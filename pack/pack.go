// Package pack is layer 1: numbers, texts and lists of texts as bytes, each in one form, and back (see shared/doc/01-pack.md).
package pack

import (
	"shelfmark/api"
)

const (
	digit = 7          // bits of a number that a byte of its form has
	more  = 1 << digit // the bit that says that another byte comes
	low   = more - 1   // the bits that are the number's
	ninth = 8          // the place of the last byte that a number of 63 bits needs
)

// Num is the form of a number from 0 on; of one below 0 it is nothing.
func Num(n int) []byte {
	if n < 0 {
		return nil
	}
	return addNum(nil, n)
}

// Text is a text's form.
func Text(s string) []byte {
	return addText(nil, s)
}

// Texts is the form of a list of texts.
func Texts(l ...string) []byte {
	b := addNum(nil, len(l))
	for _, s := range l {
		b = addText(b, s)
	}
	return b
}

// Join is the parts, one behind the other, in memory of their own.
func Join(parts ...[]byte) []byte {
	var b []byte
	for _, p := range parts {
		b = append(b, p...)
	}
	return b
}

// GetNum is the number whose form stands in b from the place at on, and the place behind it.
func GetNum(b []byte, at int) (n, next int, e api.Errno) {
	if at < 0 || at > len(b) {
		return 0, 0, api.ErrArg
	}
	for i, c := range b[at:] {
		ends := c&more == 0
		if !ends && i == ninth || ends && i > 0 && c == 0 {
			return 0, 0, api.ErrForm
		}
		n |= int(c&low) << (digit * i)
		if ends {
			return n, at + i + 1, api.OK
		}
	}
	return 0, 0, api.ErrShort
}

// GetText is the text, of at most most bytes, whose form stands in b from the place at on, and the place behind it.
func GetText(b []byte, at, most int) (s string, next int, e api.Errno) {
	size, from, e := GetNum(b, at)
	if e != api.OK {
		return "", 0, e
	}
	if size > most {
		return "", 0, api.ErrLarge
	}
	// Not from+size > len(b): that sum may be beyond an int.
	if size > len(b)-from {
		return "", 0, api.ErrShort
	}
	return string(b[from : from+size]), from + size, api.OK
}

// GetTexts is the list, of at most count texts of at most most bytes each, whose form stands in b from the place at on, and the place behind it.
func GetTexts(b []byte, at, count, most int) (l []string, next int, e api.Errno) {
	size, next, e := GetNum(b, at)
	if e != api.OK {
		return nil, 0, e
	}
	if size > count {
		return nil, 0, api.ErrLarge
	}
	// No memory is asked for ahead: size is what the bytes claim, and may be beyond all that is there.
	for range size {
		var s string
		s, next, e = GetText(b, next, most)
		if e != api.OK {
			return nil, 0, e
		}
		l = append(l, s)
	}
	return l, next, api.OK
}

func addNum(b []byte, n int) []byte {
	for n > low {
		b = append(b, byte(n&low|more))
		n >>= digit
	}
	return append(b, byte(n))
}

func addText(b []byte, s string) []byte {
	return append(addNum(b, len(s)), s...)
}
