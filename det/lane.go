package det

import (
	"slices"

	"hyphen/api"
	"hyphen/trop"
)

// anySet stands, in Sets, for no Def: any letter is of it.
const anySet = -1

// lane is one Rule, its Left as positions, and the rows of costs that these come to. No Arc leads to another lane: so each has rows of its own, never more than all together have.
// A row has those positions alone that a way leads to: of each which it is, then the least cost.
type lane struct {
	api.Rule
	api.Side
	names
	arcs  [][]api.Arc // of each position, those from it
	of    [][]int     // of each kind of letters, the positions that they are of
	kinds []int       // of each letter, its kind
	next  [][]int     // of each row, of each kind, the row behind
	costs []int       // of each row, what breaking by the Rule costs
}

// newLanes makes those of all Rules; false: one has more than most rows, and all together then have, too.
func newLanes(rules []api.Rule, sides []api.Side, in [][]bool, letters, most int) ([]*lane, bool) {
	var lanes []*lane
	for i := range min(len(rules), len(sides)) {
		l := newLane(rules[i], sides[i])
		l.learn(in, letters)
		if !l.finish(most) {
			return nil, false
		}
		lanes = append(lanes, l)
	}
	return lanes, true
}

// newLane leaves out what fits no position: lists that side.Make did not tell may have any length, and Arcs may lead anywhere.
func newLane(r api.Rule, s api.Side) *lane {
	size := min(len(s.Sets), len(s.First), len(s.Ends))
	l := &lane{Rule: r, Side: s, names: newNames(), arcs: make([][]api.Arc, size)}
	l.number() // at place 0 no way leads anywhere
	for _, a := range s.Arcs {
		if min(a.From, a.To) >= 0 && max(a.From, a.To) < size {
			l.arcs[a.From] = append(l.arcs[a.From], a)
		}
	}
	return l
}

// learn finds out which letters are of one kind: those that are of the same positions.
func (l *lane) learn(in [][]bool, letters int) {
	met := newNames()
	for letter := range letters {
		var of []int
		for at := range l.arcs {
			if isOf(l.Sets[at], in, letter) {
				of = append(of, at)
			}
		}
		l.kinds = append(l.kinds, met.number(of...))
	}
	for kind := range met.rows {
		l.of = append(l.of, met.row(kind))
	}
}

// isOf tells whether a letter is of a position of that set.
func isOf(set int, in [][]bool, letter int) bool {
	if set == anySet {
		return true
	}
	return set >= 0 && set < len(in) && letter < len(in[set]) && in[set][letter]
}

// finish finds all rows; false: they are more than most.
func (l *lane) finish(most int) bool {
	next, is := l.all(most, l.step)
	if !is {
		return false
	}
	l.next = next
	for at := range l.rows {
		l.costs = append(l.costs, l.cost(l.row(at)))
	}
	return true
}

// step tells, of each kind of letters, the row behind one, where row is ahead of it.
func (l *lane) step(row []int) []int {
	costs := l.behind(row)
	to, room := make([]int, len(l.of)), make([]int, 0, 2*len(costs))
	for kind, of := range l.of {
		room = room[:0]
		for _, at := range of {
			if costs[at] < api.Inf {
				room = append(room, at, costs[at])
			}
		}
		to[kind] = l.number(room...)
	}
	return to
}

// behind tells, of each position, the least cost of a way to it behind a letter that is of it, where row is ahead of that.
func (l *lane) behind(row []int) []int {
	costs := slices.Clone(l.First[:len(l.arcs)])
	for way := range slices.Chunk(row, 2) {
		for _, a := range l.arcs[way[0]] {
			costs[a.To] = trop.Min(costs[a.To], trop.Add(way[1], a.W))
		}
	}
	return costs
}

// cost tells the least that breaking by the Rule costs where the lane's row is row.
func (l *lane) cost(row []int) int {
	ends := []int{l.None}
	for way := range slices.Chunk(row, 2) {
		ends = append(ends, trop.Add(way[1], l.Ends[way[0]]))
	}
	return trop.Add(l.Cost, trop.Min(ends...))
}
