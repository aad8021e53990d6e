package seg

import (
	"hyphen/api"
	"hyphen/back"
	"hyphen/det"
	"hyphen/part"
	"hyphen/utf"
)

// runner runs texts through a table's machines.
type runner struct {
	api.Table
}

// letters tells those of s's scalars.
func (r runner) letters(s string) []int {
	scalars, _ := utf.Decode(s)
	letters := make([]int, len(scalars))
	for i, n := range scalars {
		letters[i] = part.Letter(r.Cuts, r.Letters, n)
	}
	return letters
}

// run tells what breaking s costs, place by place: what is ahead is found first, from s's end on, as costs hang on it.
func (r runner) run(s string) []api.Vec {
	text := r.letters(s)
	return det.Run(r.F, text, back.Run(r.B, text))
}
