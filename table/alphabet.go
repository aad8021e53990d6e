package table

import (
	"hyphen/api"
)

// alphabet is which numbers are one letter, as part.Cuts tells it.
type alphabet struct{ cuts, letters []int }

// right tells whether each number, from 0 on, has one letter.
func (a alphabet) right() bool {
	return fits(len(a.cuts)) && len(a.letters) == len(a.cuts) && a.rises() && a.isNumbered()
}

// rises tells whether the cuts begin with 0, and rise, to Last at most.
func (a alphabet) rises() bool {
	for i, n := range a.cuts[1:] {
		if n <= a.cuts[i] {
			return false
		}
	}
	return a.cuts[0] == 0 && within(0, api.Last, a.cuts...)
}

// isNumbered tells whether the letters are numbered from 0 on, as they first come.
func (a alphabet) isNumbered() bool {
	count := 0
	for _, letter := range a.letters {
		if !within(0, count, letter) {
			return false
		}
		count = max(count, letter+1)
	}
	return true
}
