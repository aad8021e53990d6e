package twin

import (
	"cmp"
	"slices"

	"hyphen/api"
)

// net is positions, and where one may go on from each.
type net struct {
	api.Side
	next [][]api.Arc // of each position, the arcs from it, by To
}

// newNet leaves out arcs that may not be: they may lead anywhere, at any cost.
func newNet(s api.Side) net {
	n := net{s, make([][]api.Arc, len(s.Sets))}
	for _, a := range s.Arcs {
		if n.has(a.From) && n.has(a.To) && a.W >= 0 && a.W < api.Inf {
			n.add(a)
		}
	}
	return n
}

// has tells whether at is a position.
func (n net) has(at int) bool {
	return at >= 0 && at < len(n.next)
}

// find tells where in the arcs from one the arc to another is, or would be.
func (n net) find(from, to int) (int, bool) {
	return slices.BinarySearchFunc(n.next[from], to, func(a api.Arc, to int) int { return cmp.Compare(a.To, to) })
}

// add adds an arc. Of several between the same two the least counts, as it does of matches.
func (n net) add(a api.Arc) {
	l := n.next[a.From]
	i, is := n.find(a.From, a.To)
	if is {
		l[i].W = min(l[i].W, a.W)
		return
	}
	n.next[a.From] = slices.Insert(l, i, a)
}

// cost tells what the arc from one to another costs; false: none is there.
func (n net) cost(from, to int) (int, bool) {
	if !n.has(from) {
		return 0, false
	}
	i, is := n.find(from, to)
	if !is {
		return 0, false
	}
	return n.next[from][i].W, true
}

// turned is n, its arcs the other way about.
func (n net) turned() net {
	back := net{n.Side, make([][]api.Arc, len(n.next))}
	for _, arcs := range n.next {
		for _, a := range arcs {
			back.add(api.Arc{From: a.To, To: a.From, W: a.W})
		}
	}
	return back
}

// begins tells the positions with a First.
func (n net) begins() []int {
	var l []int
	for at, cost := range n.First {
		if n.has(at) && cost < api.Inf {
			l = append(l, at)
		}
	}
	return l
}
