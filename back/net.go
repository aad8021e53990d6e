package back

import (
	"hyphen/api"
)

// net is the positions of all sides, a bit each in one row, and the letters that are of them.
type net struct {
	wings  []wing
	length int    // words of a row
	of     []bits // of each letter, the positions that it is of
}

// newNet lays the sides' positions side by side.
func newNet(in [][]bool, letters int, sides ...api.Side) net {
	var n net
	for _, s := range sides {
		w := newWing(s, n.length)
		n.wings, n.length = append(n.wings, w), w.to
	}
	always, sets := n.sets(len(in))
	for letter := range letters {
		l := []bits{always}
		for set, row := range in {
			if letter < len(row) && row[letter] {
				l = append(l, sets[set])
			}
		}
		n.of = append(n.of, n.union(l...))
	}
	return n
}

// sets tells the positions of any letter, and of each of so many Defs those of its.
func (n net) sets(defs int) (always bits, sets []bits) {
	always = n.union()
	for range defs {
		sets = append(sets, n.union())
	}
	for _, w := range n.wings {
		for at := range w.ahead {
			if set := w.Sets[at]; set == anySet {
				w.own(always).add(at)
			} else if set >= 0 && set < defs {
				w.own(sets[set]).add(at)
			}
		}
	}
	return always, sets
}

// union tells, as a new row, the positions that are in any of l.
func (n net) union(l ...bits) bits {
	row := make(bits, n.length)
	row.join(l...)
	return row
}

// ready tells the positions that are live at the place ahead of one where those of live are, if the letter between is of them.
func (n net) ready(live bits) bits {
	row := n.union()
	for i := range n.wings {
		n.wings[i].reach(row, live)
	}
	return row
}

// held tells which sides hold where the positions of live are.
func (n net) held(live bits) bits {
	row := make(bits, words(len(n.wings)))
	for i := range n.wings {
		if n.wings[i].holds(live) {
			row.add(i)
		}
	}
	return row
}
