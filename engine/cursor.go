package engine

import (
	"slices"
	"strings"

	"shelfmark/api"
)

// Cursor goes over the pairs of a range.
type Cursor struct {
	// What is left of the small table, as it stood, and of each run, the newer ones ahead.
	left [][]api.Change
}

// Cursor is a cursor over a range.
func (e *Engine) Cursor(r api.Range) *Cursor {
	c := e.over(r)
	// The runs stay as they are, but the small table goes on being written to.
	c.left[0] = slices.Clone(c.left[0])
	return c
}

// over is a cursor over a range that holds until the engine is changed.
func (e *Engine) over(r api.Range) *Cursor {
	left := e.parts()
	for i, l := range left {
		left[i] = within(l, r)
	}
	return &Cursor{left}
}

// Next is the next pair.
func (c *Cursor) Next() (api.Pair, bool) {
	for {
		next, ok := c.step()
		if !ok {
			return api.Pair{}, false
		}
		if !next.Gone {
			return api.Pair{Key: strings.Clone(next.Key), Val: strings.Clone(next.Val)}, true
		}
	}
}

// step is the newest change of the next key, of which none is left then.
func (c *Cursor) step() (api.Change, bool) {
	at := c.least()
	if at < 0 {
		return api.Change{}, false
	}
	next := c.left[at][0]
	for i, l := range c.left {
		if len(l) > 0 && l[0].Key == next.Key {
			c.left[i] = l[1:]
		}
	}
	return next, true
}

// least is the place of the newest list that begins with the least key; below 0, if nothing is left.
func (c *Cursor) least() int {
	at := -1
	for i, l := range c.left {
		if len(l) > 0 && (at < 0 || l[0].Key < c.left[at][0].Key) {
			at = i
		}
	}
	return at
}

// within is what a range has of a run.
func within(l []api.Change, r api.Range) []api.Change {
	from, _ := place(l, r.Lo)
	l = l[from:]
	if r.Hi == "" {
		return l
	}
	// Looked for behind Lo alone, so that an end ahead of it leaves nothing.
	to, _ := place(l, r.Hi)
	return l[:to]
}
