package comp

import (
	"hyphen/api"
	"hyphen/part"
	"hyphen/syn"
)

// alphabet is the letters that a file's sets make.
type alphabet struct {
	cuts, letters []int
	in            [][]bool // of each set, of each letter, whether it has it
}

// newAlphabet tells f's.
func newAlphabet(f api.File) alphabet {
	sets := syn.Sets(f)
	cuts, letters := part.Cuts(sets)
	return alphabet{cuts, letters, part.In(sets, cuts, letters)}
}

// count tells how many letters there are.
func (a alphabet) count() int {
	return part.Count(a.letters)
}
