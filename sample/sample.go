// Package sample makes values for the layers' tests, and what comes of them by other means than the layers' own: so the tests lean on nothing of what they test.
package sample

import (
	"strings"

	"shelfmark/api"
)

const (
	octet = 1 << 8  // how many bytes there are
	half  = 1 << 31 // what brings the upper four bytes of an Int to 0 and above
	four  = 1 << 32 // how many rows of four bytes there are
)

// Null is the value Null.
func Null() api.Val { return api.Val{} }

// Int is an Int.
func Int(n int) api.Val { return api.Val{Kind: api.Int, N: n} }

// Text is a Text.
func Text(s string) api.Val { return api.Val{Kind: api.Text, S: s} }

// RowKey is the key of a row of good values (chapter 3).
func RowKey(l []api.Val) string {
	s := ""
	for _, v := range l {
		switch v.Kind {
		case api.Null:
			s += "\x01"
		case api.Int:
			s += "\x02" + bytesOf(v.N>>32+half) + bytesOf(v.N&(four-1))
		case api.Text:
			s += "\x03" + strings.ReplaceAll(v.S, "\x00", "\x00\xff") + "\x00\x00"
		}
	}
	return s
}

// bytesOf is a number below 2^32 in four bytes, the highest first.
func bytesOf(n int) string {
	s := ""
	for range 4 {
		s = string([]byte{byte(n % octet)}) + s
		n /= octet
	}
	return s
}
