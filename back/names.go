package back

import (
	"slices"
)

// names numbers rows of bits as they first come.
type names struct {
	rows    []bits
	numbers map[string]int
	room    []byte // kept from row to row: most that are asked for were met before, and take no new memory
}

// newNames has met none.
func newNames() names {
	return names{numbers: map[string]int{}}
}

// number tells row's, a new one where it was not met yet. The row itself is the asker's.
func (n *names) number(row bits) int {
	n.room = row.key(n.room[:0])
	at, is := n.numbers[string(n.room)]
	if !is {
		at = len(n.rows)
		n.numbers[string(n.room)] = at
		n.rows = append(n.rows, slices.Clone(row))
	}
	return at
}
