package table

import (
	"slices"

	"hyphen/api"
)

// states is what both kinds of machine have: where states lead to, by states and letters.
type states struct {
	next [][]int
}

// size tells how many states there are.
func (s states) size() int {
	return len(s.next)
}

// lead tells whether there are states, and all of them lead, by so many letters, to some of them.
func (s states) lead(letters int) bool {
	for _, row := range s.next {
		if len(row) != letters || !within(0, s.size()-1, row...) {
			return false
		}
	}
	return fits(s.size())
}

// backward is an api.Back: states, and what each one says.
type backward struct {
	states
	outs []int
}

// right tells whether it is a machine of so many letters. An Out is a place in lists: it may be no greater than they are long.
func (b backward) right(letters int) bool {
	return b.lead(letters) && len(b.outs) == b.size() && within(0, mostItems-1, b.outs...)
}

// labels tells how many places of a list its Outs can ask for.
func (b backward) labels() int {
	return slices.Max(b.outs) + 1
}

// forward is an api.Fwd: states, and what each one says.
type forward struct {
	states
	emit [][]api.Vec
}

// right tells whether it is a machine of so many letters, and so many labels.
func (f forward) right(letters, labels int) bool {
	if !f.lead(letters) || len(f.emit) != f.size() {
		return false
	}
	for _, vecs := range f.emit {
		if len(vecs) != labels || !areCosts(vecs...) {
			return false
		}
	}
	return true
}

// areCosts tells whether all numbers of vecs are costs.
func areCosts(vecs ...api.Vec) bool {
	for _, v := range vecs {
		if !within(0, api.Inf, v[:]...) {
			return false
		}
	}
	return true
}
