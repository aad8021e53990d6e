package side

import (
	"slices"

	"hyphen/api"
	"hyphen/trop"
)

// web is positions, as they are made, and what it costs to go on from one to another.
type web struct {
	sets  []int
	costs [][]int // by the one, then the other; Inf: no arc leads there
}

// newWeb has room for so many positions.
func newWeb(size int) web {
	var w web
	for range size {
		w.costs = append(w.costs, forbidden(size))
	}
	return w
}

// forbidden tells so many Inf.
func forbidden(size int) []int {
	return slices.Repeat([]int{api.Inf}, size)
}

// position makes one more, and tells which it is.
func (w *web) position(set int) int {
	w.sets = append(w.sets, set)
	return len(w.sets) - 1
}

// link lets each of ends go on to each of first, where there is no cheaper way yet.
func (w *web) link(ends, first doors) {
	for _, e := range ends {
		for _, f := range first {
			w.costs[e.at][f.at] = trop.Min(w.costs[e.at][f.at], trop.Add(e.cost, f.cost))
		}
	}
}

// arcs tells where one may go on, by the one, then the other.
func (w *web) arcs() []api.Arc {
	var l []api.Arc
	for from, row := range w.costs {
		for to, n := range row {
			if n < api.Inf {
				l = append(l, api.Arc{From: from, To: to, W: n})
			}
		}
	}
	return l
}

// door is a position that a match may begin with, or end with, and what then is ahead of it, or behind it, costs.
type door struct{ at, cost int }

// doors are those of one piece: none is forbidden, each position is there once at most.
type doors []door

// plus tells l anew, where n is paid, too.
func (l doors) plus(n int) doors {
	var dearer doors
	for _, d := range l {
		if cost := trop.Add(d.cost, n); cost < api.Inf {
			dearer = append(dearer, door{d.at, cost})
		}
	}
	return dearer
}

// costs tells what l's doors cost, of so many positions.
func (l doors) costs(size int) []int {
	row := forbidden(size)
	for _, d := range l {
		row[d.at] = d.cost
	}
	return row
}

// piece is what of a pattern others go on from, or to.
type piece struct {
	first, ends doors
	none        int // the least that a match of no scalar costs
}

// never is the piece of what matches nothing at all.
func never() piece {
	return piece{none: api.Inf}
}

// either is the piece of one or the other.
func either(a, b piece) piece {
	return piece{slices.Concat(a.first, b.first), slices.Concat(a.ends, b.ends), trop.Min(a.none, b.none)}
}

// dearer is p, where w is paid ahead of it.
func (p piece) dearer(w int) piece {
	return piece{p.first.plus(w), p.ends, trop.Add(p.none, w)}
}

// maker makes positions for patterns of a file, from left to right.
type maker struct {
	web
	api.File
}

// piece makes x's positions, as many as Size tells; what is no pattern matches nothing at all.
func (m *maker) piece(x api.Rex) piece {
	switch x.Kind {
	case api.RNone:
		return piece{}
	case api.RSet:
		return m.named(x.Name)
	case api.RAny:
		return m.one(anySet)
	case api.RCat:
		return m.row(m.piece(child(x, 0)), m.piece(child(x, 1)))
	case api.RAlt:
		return either(m.piece(child(x, 0)), m.piece(child(x, 1)))
	case api.RStar:
		return m.star(m.piece(child(x, 0)))
	case api.RTimes:
		return m.times(child(x, 0), x.Lo, x.Hi)
	case api.RWeight:
		return m.piece(child(x, 0)).dearer(x.W)
	}
	return never()
}

// named makes one position of the Def of that name.
func (m *maker) named(name string) piece {
	i := slices.IndexFunc(m.Defs, func(d api.Def) bool { return d.Name == name })
	if i < 0 {
		// Sized all the same; but with no doors, so that no match goes by it.
		m.position(anySet)
		return never()
	}
	return m.one(i)
}

// one makes one position of a set.
func (m *maker) one(set int) piece {
	at := m.position(set)
	return piece{doors{{at, 0}}, doors{{at, 0}}, api.Inf}
}

// row is the piece of a, then b.
func (m *maker) row(a, b piece) piece {
	m.link(a.ends, b.first)
	return piece{
		slices.Concat(a.first, b.first.plus(a.none)),
		slices.Concat(a.ends.plus(b.none), b.ends),
		trop.Add(a.none, b.none),
	}
}

// star is the piece of any number of a. A round of no scalar makes nothing cheaper.
func (m *maker) star(a piece) piece {
	m.link(a.ends, a.first)
	return piece{a.first, a.ends, 0}
}

// times makes the positions of lo to hi rounds of x.
func (m *maker) times(x api.Rex, lo, hi int) piece {
	if hi <= 0 {
		return piece{}
	}
	ahead := len(m.sets)
	rounds := []piece{m.piece(x)}
	if len(m.sets) == ahead {
		// Rounds of no position need not be made: those of repeats within repeats would multiply without end.
		return piece{none: product(rounds[0].none, lo, api.Inf)}
	}
	for range hi - 1 {
		rounds = append(rounds, m.piece(x))
	}
	return m.upTo(rounds, lo)
}

// upTo is the piece of the first lo of rounds, then any many of the others, none left out ahead of another.
func (m *maker) upTo(rounds []piece, lo int) piece {
	var rest piece
	for i, round := range slices.Backward(rounds) {
		rest = m.row(round, rest)
		if i >= lo {
			rest.none = 0
		}
	}
	return rest
}
