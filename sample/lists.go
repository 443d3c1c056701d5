package sample

import "slices"

// Lists are all lists of up to most out of some things, the shorter ones first.
func Lists[T any](most int, of ...T) [][]T {
	all := [][]T{nil}
	for from := 0; most > 0; most-- {
		to := len(all)
		for _, l := range all[from:to] {
			for _, x := range of {
				all = append(all, append(slices.Clone(l), x))
			}
		}
		from = to
	}
	return all
}
