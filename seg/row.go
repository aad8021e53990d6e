package seg

import (
	"hyphen/api"
	"hyphen/trop"
)

// row is what breaking a text costs, place by place.
type row []api.Vec

// size tells how many places there are.
func (r row) size() int {
	return len(r)
}

// has tells whether all of l are places.
func (r row) has(l ...int) bool {
	for _, at := range l {
		if at < 0 || at >= len(r) {
			return false
		}
	}
	return true
}

// vec tells what breaking costs there; of what is no place that it is forbidden.
func (r row) vec(at int) api.Vec {
	if !r.has(at) {
		return trop.None()
	}
	return r[at]
}

// cheapest tells the last of those places from lo to hi that cost the least of a category; false: it is forbidden at all of them.
func (r row) cheapest(lo, hi, cat int) (int, bool) {
	best, least := 0, api.Inf
	for at := lo; at <= hi; at++ {
		if cost := r[at][cat]; cost < api.Inf && cost <= least {
			best, least = at, cost
		}
	}
	return best, least < api.Inf
}
