package back

import (
	"hyphen/api"
)

// walk goes by a machine from a text's end to its beginning.
type walk struct {
	api.Back
	state int
}

// next goes over a letter. Where the machine has no such state, or letter, it is as at the end of a text.
func (w *walk) next(letter int) {
	state := w.state
	w.state = 0
	if state >= 0 && state < len(w.Next) && letter >= 0 && letter < len(w.Next[state]) {
		w.state = w.Next[state][letter]
	}
}

// out tells the state's; 0 of what is no state.
func (w *walk) out() int {
	if w.state < 0 || w.state >= len(w.Out) {
		return 0
	}
	return w.Out[w.state]
}
