package sample

import "slices"

// tester is what of a test InRoom tells its faults to.
type tester interface {
	Helper()
	Errorf(format string, args ...any)
}

// InRoom is a list with others behind its length, and a test that all of them are as they were.
func InRoom[T comparable](t tester, inside []T, behind ...T) ([]T, func()) {
	all := slices.Concat(inside, behind)
	before := slices.Clone(all)
	return all[:len(inside):len(all)], func() {
		t.Helper()
		if !slices.Equal(all, before) {
			t.Errorf("%#v became %#v", before, all)
		}
	}
}

// Spoil writes over all the memory that a list of bytes has, behind its length too.
func Spoil(b []byte) {
	b = b[:cap(b)]
	for i := range b {
		b[i] ^= 0xff
	}
}

// Overwrite writes over all the memory that a list has, behind its length too.
func Overwrite[T any](l []T, by T) {
	l = l[:cap(l)]
	for i := range l {
		l[i] = by
	}
}
