package side

import (
	"hyphen/api"
	"hyphen/trop"
)

// walk goes along a text, letter by letter.
type walk struct {
	net
	paid []int // of each position, the least that a way costs by which the last letter is of it
}

// begin goes over the first letter.
func (w *walk) begin(letter int) {
	w.paid = w.only(w.First, letter)
}

// next goes over a further letter.
func (w *walk) next(letter int) {
	costs := forbidden(len(w.paid))
	for _, a := range w.Arcs {
		costs[a.To] = trop.Min(costs[a.To], trop.Add(w.paid[a.From], a.W))
	}
	w.paid = w.only(costs, letter)
}

// end tells the least that a match costs that ends here.
func (w *walk) end() int {
	least := api.Inf
	for at, n := range w.paid {
		least = trop.Min(least, trop.Add(n, w.Ends[at]))
	}
	return least
}

// only tells costs anew; those of positions whose sets lack the letter are Inf.
func (n net) only(costs []int, letter int) []int {
	row := forbidden(len(costs))
	for at, cost := range costs {
		if n.has(at, letter) {
			row[at] = cost
		}
	}
	return row
}
