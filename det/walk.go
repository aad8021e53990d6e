package det

import (
	"hyphen/api"
	"hyphen/trop"
)

// walk goes by a machine from a text's beginning to its end.
type walk struct {
	api.Fwd
	state int
}

// next goes over a letter. Where the machine has no such state, or letter, it is as at place 0.
func (w *walk) next(letter int) {
	state := w.state
	w.state = 0
	if state >= 0 && state < len(w.Next) && letter >= 0 && letter < len(w.Next[state]) {
		w.state = w.Next[state][letter]
	}
}

// vec tells the state's, of the label of place at; of what the machine, or labels, lack: that breaking is forbidden.
func (w *walk) vec(at int, labels []int) api.Vec {
	if w.state < 0 || w.state >= len(w.Emit) || at >= len(labels) {
		return trop.None()
	}
	vecs, label := w.Emit[w.state], labels[at]
	if label < 0 || label >= len(vecs) {
		return trop.None()
	}
	return vecs[label]
}
