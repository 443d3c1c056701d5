package run

import (
	"container/heap"

	"shelfmark/api"
)

// rest is what of a run isn't merged yet; it isn't empty.
type rest struct {
	changes []api.Change
	rank    int // the place of its run: of one key's changes that of the lowest rank counts
}

// rests are a heap, on whose top the rest lies whose first change comes next.
type rests []rest

func (h rests) Len() int {
	return len(h)
}

func (h rests) Less(i, j int) bool {
	if by := byKey(h[i].changes[0], h[j].changes[0]); by != 0 {
		return by < 0
	}
	return h[i].rank < h[j].rank
}

func (h rests) Swap(i, j int) {
	h[i], h[j] = h[j], h[i]
}

// Push lays a rest behind the others, for package heap.
func (h *rests) Push(x any) {
	*h = append(*h, x.(rest))
}

// Pop takes the last rest out, for package heap.
func (h *rests) Pop() any {
	last := len(*h) - 1
	x := (*h)[last]
	*h = (*h)[:last]
	return x
}

// merged is the run that has of each key the change of the first of these runs in which it stands.
func merged(runs [][]api.Change) []api.Change {
	h := &rests{}
	for rank, l := range runs {
		pushRest(h, l, rank)
	}
	var all []api.Change
	for h.Len() > 0 {
		next := heap.Pop(h).(rest)
		c := next.changes[0]
		// The change of the first run came ahead of those that others have of its key.
		if len(all) == 0 || all[len(all)-1].Key != c.Key {
			all = append(all, clone(c))
		}
		pushRest(h, next.changes[1:], next.rank)
	}
	return all
}

// pushRest lays a rest into the heap, if anything of it is left.
func pushRest(h *rests, changes []api.Change, rank int) {
	if len(changes) > 0 {
		heap.Push(h, rest{changes, rank})
	}
}
