package back

import (
	"hyphen/api"
)

// maker makes a machine, state by state.
type maker struct {
	net
	states names // rows of the positions that are live
	outs   names // rows of the sides that hold
	made   api.Back
}

// newMaker has met state 0 alone: at the end of a text no position is live.
func newMaker(n net) *maker {
	m := &maker{net: n, states: newNames(), outs: newNames()}
	m.states.number(m.union())
	return m
}

// all makes each state that is met, in that order; false: they are more than most.
func (m *maker) all(most int) bool {
	for at := 0; at < len(m.states.rows); at++ {
		if len(m.states.rows) > most {
			return false
		}
		live := m.states.rows[at]
		m.made.Next = append(m.made.Next, m.next(live))
		m.made.Out = append(m.made.Out, m.outs.number(m.held(live)))
	}
	return true
}

// next tells, of each letter, the state at the place ahead of it, where those of live are live behind it.
func (m *maker) next(live bits) []int {
	ready, row := m.ready(live), m.union()
	to := make([]int, len(m.of))
	for letter, of := range m.of {
		row.share(ready, of)
		to[letter] = m.states.number(row)
	}
	return to
}

// sets tells the rows of the sides that hold.
func (m *maker) sets() [][]bool {
	var sets [][]bool
	for _, row := range m.outs.rows {
		holds := make([]bool, len(m.wings))
		for i := range holds {
			holds[i] = row.has(i)
		}
		sets = append(sets, holds)
	}
	return sets
}
