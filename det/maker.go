package det

import (
	"hyphen/api"
	"hyphen/trop"
)

// maker makes a machine out of lanes, side by side. A row has, of each lane, the number of its row: that is a state.
type maker struct {
	names
	lanes   []*lane
	letters int
}

// newMaker has met state 0 alone: at place 0 each lane's row is its first one.
func newMaker(letters int, lanes ...*lane) *maker {
	m := &maker{newNames(), lanes, letters}
	m.number(make([]int, len(lanes))...)
	return m
}

// step tells, of each letter, the state behind it, where row's is ahead of it.
func (m *maker) step(row []int) []int {
	to, behind := make([]int, m.letters), make([]int, len(row))
	for letter := range to {
		for i, l := range m.lanes {
			behind[i] = l.next[row[i]][l.kinds[letter]]
		}
		to[letter] = m.number(behind...)
	}
	return to
}

// emit tells, of each state, what breaking costs, by rows of sets.
func (m *maker) emit(sets [][]bool) [][]api.Vec {
	var emit [][]api.Vec
	for at := range m.rows {
		row, vecs := m.row(at), make([]api.Vec, len(sets))
		for i, holds := range sets {
			vecs[i] = m.vec(row, holds)
		}
		emit = append(emit, vecs)
	}
	return emit
}

// vec tells what breaking costs in row's state, by those Rules alone that hold.
func (m *maker) vec(row []int, holds []bool) api.Vec {
	v := trop.None()
	for i, l := range m.lanes {
		if i < len(holds) && holds[i] && l.Cat >= 0 && l.Cat < len(v) {
			v[l.Cat] = trop.Min(v[l.Cat], l.costs[row[i]])
		}
	}
	return v
}
