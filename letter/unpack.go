package letter

import (
	"math"

	"shelfmark/api"
	"shelfmark/pack"
)

// Unpack is the letter that bytes are.
func Unpack(s string) (api.Letter, api.Errno) {
	if len(s) > api.MaxPayload {
		return api.Letter{}, api.ErrLarge
	}
	r := &reader{b: []byte(s)}
	l := r.letter()
	if r.at < len(r.b) {
		r.fail(api.ErrForm)
	}
	if r.e != api.OK {
		return api.Letter{}, r.e
	}
	return l, api.OK
}

// reader reads forms, one behind the other. Behind the first fault, which it keeps, all that it reads is zero.
type reader struct {
	b  []byte
	at int
	e  api.Errno
}

// fail keeps a fault, if it is the first one.
func (r *reader) fail(e api.Errno) {
	if r.e == api.OK {
		r.e = e
	}
}

// letter reads a letter's forms.
func (r *reader) letter() api.Letter {
	var l api.Letter
	l.Kind = r.number(mostKind)
	for _, n := range []*int{&l.From, &l.To, &l.A, &l.B, &l.C, &l.D} {
		*n = r.number(api.MaxNumber)
	}
	l.Code = api.Errno(r.number(api.MaxNumber))
	l.Yes = r.yes()
	for _, s := range []*string{&l.S, &l.T, &l.Body} {
		*s = r.text()
	}
	l.Pairs = list(r, func() api.Pair {
		return api.Pair{Key: r.text(), Val: r.text()}
	})
	l.Intents = list(r, func() api.Intent {
		return api.Intent{Entry: r.text(), Version: r.number(api.MaxNumber), Gone: r.yes()}
	})
	return l
}

// list reads how many things there are, and then each by one.
func list[T any](r *reader, one func() T) []T {
	count := r.number(api.MaxNumber)
	if count > api.MaxItems {
		r.fail(api.ErrLarge)
	}
	var l []T
	for len(l) < count && r.e == api.OK {
		l = append(l, one())
	}
	return l
}

// number reads a number of at most most.
func (r *reader) number(most int) int {
	if r.e != api.OK {
		return 0
	}
	n, next, e := pack.GetNum(r.b, r.at)
	if e != api.OK {
		r.fail(e)
		return 0
	}
	if n > most {
		r.fail(api.ErrForm)
		return 0
	}
	r.at = next
	return n
}

// yes reads a number that says yes or no.
func (r *reader) yes() bool {
	return r.number(1) == 1
}

// text reads a text of any length.
func (r *reader) text() string {
	if r.e != api.OK {
		return ""
	}
	s, next, e := pack.GetText(r.b, r.at, math.MaxInt)
	if e != api.OK {
		r.fail(e)
		return ""
	}
	r.at = next
	return s
}
