package mini

import (
	"slices"
)

// none stands where there is no number.
const none = -1

// noneOf tells none, so many times.
func noneOf(size int) []int {
	return slices.Repeat([]int{none}, size)
}

// order numbers things, themselves numbers from 0 on, as they are first met.
type order struct {
	met     []int // the things, in that order
	numbers []int // of each thing; none, if it was not met yet
}

// newOrder has met none of so many.
func newOrder(things int) order {
	return order{numbers: noneOf(things)}
}

// number tells thing's, a new one where it was not met yet.
func (o *order) number(thing int) int {
	if o.numbers[thing] == none {
		o.numbers[thing] = len(o.met)
		o.met = append(o.met, thing)
	}
	return o.numbers[thing]
}
