package mini

import (
	"slices"

	"hyphen/api"
)

// bytesPerNumber is how many one takes in a key, bitsPerByte how many bits each of them has.
const (
	bytesPerNumber = 8
	bitsPerByte    = 8
)

// backward is an api.Back: states, and what each one says.
type backward struct {
	net
	outs []int
}

// right tells whether it is a machine.
func (b backward) right() bool {
	return b.leads() && len(b.outs) == b.size() && slices.Min(b.outs) >= 0
}

// out tells what a state says.
func (b backward) out(state int) int {
	return b.outs[state]
}

// forward is an api.Fwd: states, and what each one says.
type forward struct {
	net
	emit [][]api.Vec
}

// right tells whether it is a machine.
func (f forward) right() bool {
	if !f.leads() || len(f.emit) != f.size() {
		return false
	}
	for _, vecs := range f.emit {
		if len(vecs) != len(f.emit[0]) {
			return false
		}
	}
	return true
}

// has tells whether all of labels are places of Emit.
func (f forward) has(labels ...int) bool {
	for _, label := range labels {
		if label < 0 || label >= len(f.emit[0]) {
			return false
		}
	}
	return true
}

// vecs tells what a state says, as a new list.
func (f forward) vecs(state int) []api.Vec {
	return slices.Clone(f.emit[state])
}

// picked tells, as a new list, what a state says of labels.
func (f forward) picked(state int, labels ...int) []api.Vec {
	vecs := make([]api.Vec, len(labels))
	for i, label := range labels {
		vecs[i] = f.emit[state][label]
	}
	return vecs
}

// key tells what a state says as bytes, which can be found in a map: the same of the same Vecs alone, as there are as many in all states.
func (f forward) key(state int) string {
	vecs := f.emit[state]
	l := make([]byte, 0, len(vecs)*len(api.Vec{})*bytesPerNumber)
	for _, v := range vecs {
		for _, n := range v {
			for range bytesPerNumber {
				l = append(l, byte(n))
				n >>= bitsPerByte
			}
		}
	}
	return string(l)
}

// sized is a machine of either kind: it has so many states.
type sized interface{ size() int }

// groups tells which states of m say the same.
func groups[M sized, K comparable](m M, says func(M, int) K) [][]int {
	var l [][]int
	numbers := map[K]int{}
	for state := range m.size() {
		said := says(m, state)
		at, is := numbers[said]
		if !is {
			at = len(l)
			numbers[said] = at
			l = append(l, nil)
		}
		l[at] = append(l[at], state)
	}
	return l
}

// told tells what each of states, of m, says.
func told[M, T any](m M, says func(M, int) T, states ...int) []T {
	var l []T
	for _, state := range states {
		l = append(l, says(m, state))
	}
	return l
}
