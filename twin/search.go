package twin

import (
	"slices"
)

// unmet stands for where a position was met from that was not.
const unmet = -1

// search goes along arcs, step by step: each position is met by as few of them as may be.
type search struct {
	net
	met  []int // in that order
	from []int // of each position, the one that it was met from; itself: there it was begun
}

// newSearch has met nothing yet.
func newSearch(n net) search {
	return search{net: n, from: slices.Repeat([]int{unmet}, len(n.next))}
}

// meet comes to at, from one; not a second time.
func (s *search) meet(at, from int) {
	if s.from[at] == unmet {
		s.from[at] = from
		s.met = append(s.met, at)
	}
}

// all meets what ways lead to from those of first.
func (s *search) all(first []int) {
	for _, at := range first {
		s.meet(at, at)
	}
	for done := 0; done < len(s.met); done++ {
		for _, a := range s.next[s.met[done]] {
			s.meet(a.To, a.From)
		}
	}
}

// back tells by which positions one came to to, which was met.
func (s *search) back(to int) []int {
	l := []int{to}
	for s.from[to] != to {
		to = s.from[to]
		l = append(l, to)
	}
	slices.Reverse(l)
	return l
}

// way tells the positions, as few as may be, by which one comes from one of first to to.
func (n net) way(first []int, to int) ([]int, bool) {
	if !n.has(to) {
		return nil, false
	}
	s := newSearch(n)
	s.all(first)
	if s.from[to] == unmet {
		return nil, false
	}
	return s.back(to), true
}
