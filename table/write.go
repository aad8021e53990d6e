package table

import (
	"slices"

	"hyphen/api"
)

// bytesPerNumber is how many one takes, bitsPerByte how many bits each of them has.
const (
	bytesPerNumber = 8
	bitsPerByte    = 8
)

// numbers is bytes that numbers are put behind.
type numbers struct {
	bytes []byte
}

// put puts numbers behind what there is.
func (w *numbers) put(l ...int) {
	for _, n := range l {
		var b [bytesPerNumber]byte
		// The highest byte stands first: they are found from the last one on.
		for at := range slices.Backward(b[:]) {
			b[at] = byte(n)
			n >>= bitsPerByte
		}
		w.bytes = append(w.bytes, b[:]...)
	}
}

// writer puts lists behind what there is: how many, then each.
type writer struct {
	numbers
}

// list puts one of numbers.
func (w *writer) list(l ...int) {
	w.put(len(l))
	w.put(l...)
}

// lists puts one of lists.
func (w *writer) lists(rows ...[]int) {
	w.put(len(rows))
	for _, row := range rows {
		w.list(row...)
	}
}

// emits puts one of lists of Vecs.
func (w *writer) emits(emits ...[]api.Vec) {
	w.put(len(emits))
	for _, vecs := range emits {
		w.put(len(vecs))
		for _, v := range vecs {
			w.put(v[:]...)
		}
	}
}

// table puts all of t.
func (w *writer) table(t api.Table) {
	w.list(t.Cuts...)
	w.list(t.Letters...)
	w.lists(t.B.Next...)
	w.list(t.B.Out...)
	w.lists(t.F.Next...)
	w.emits(t.F.Emit...)
}
