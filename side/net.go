package side

import (
	"slices"

	"hyphen/api"
)

// net is positions, and the letters of their sets.
type net struct {
	api.Side
	in [][]bool // of each Def, of each letter, whether it has it
}

// newNet leaves out what fits no position: lists that Make did not tell may have any length, and arcs may lead anywhere.
func newNet(s api.Side, in [][]bool) net {
	size := min(len(s.Sets), len(s.First), len(s.Ends))
	s.Sets, s.First, s.Ends = s.Sets[:size], s.First[:size], s.Ends[:size]
	var arcs []api.Arc
	for _, a := range s.Arcs {
		if min(a.From, a.To) >= 0 && max(a.From, a.To) < size {
			arcs = append(arcs, a)
		}
	}
	s.Arcs = arcs
	return net{s, in}
}

// letters tells the row of position at's Def; nothing of what is none.
func (n net) letters(at int) []bool {
	if set := n.Sets[at]; set >= 0 && set < len(n.in) {
		return n.in[set]
	}
	return nil
}

// has tells whether position at's set has that letter.
func (n net) has(at, letter int) bool {
	row := n.letters(at)
	return n.Sets[at] == anySet || letter < len(row) && row[letter]
}

// isOpen tells whether position at's set has any letter.
func (n net) isOpen(at int) bool {
	return n.Sets[at] == anySet || slices.Contains(n.letters(at), true)
}
