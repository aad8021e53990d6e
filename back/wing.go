package back

import (
	"hyphen/api"
)

// anySet stands, in Sets, for no Def: any letter is of it.
const anySet = -1

// wing is one side, and what makes its positions live.
type wing struct {
	api.Side
	from, to     int    // its words of a row: no other wing's bits are in them
	begins, ends bits   // its positions with a First, with Ends
	ahead        []bits // of each position, those with an Arc to it
}

// newWing leaves out what fits no position: lists that side.Make did not tell may have any length, and Arcs may lead anywhere.
func newWing(s api.Side, from int) wing {
	size := min(len(s.Sets), len(s.First), len(s.Ends))
	w := wing{Side: s, from: from, to: from + words(size), begins: make(bits, words(size)), ends: make(bits, words(size)), ahead: make([]bits, size)}
	for at := range size {
		if w.First[at] < api.Inf {
			w.begins.add(at)
		}
		if w.Ends[at] < api.Inf {
			w.ends.add(at)
		}
	}
	for _, a := range w.Arcs {
		if min(a.From, a.To) >= 0 && max(a.From, a.To) < size {
			w.lead(a.From, a.To)
		}
	}
	return w
}

// lead makes from one of those ahead of to.
func (w *wing) lead(from, to int) {
	if w.ahead[to] == nil {
		w.ahead[to] = make(bits, words(len(w.ahead)))
	}
	w.ahead[to].add(from)
}

// own tells the wing's part of a row.
func (w *wing) own(row bits) bits {
	return row[w.from:w.to]
}

// reach adds, to a row, the wing's positions that are live at the place ahead of one where those of live are, if the letter between is of them.
func (w *wing) reach(row, live bits) {
	row, live = w.own(row), w.own(live)
	row.join(w.ends)
	for at, ahead := range w.ahead {
		if live.has(at) {
			row.join(ahead)
		}
	}
}

// holds tells whether the side does where those of live are.
func (w *wing) holds(live bits) bool {
	return w.None < api.Inf || w.own(live).meets(w.begins)
}
