package twin

import (
	"slices"

	"hyphen/api"
)

// tour goes along arcs, as deep as it can, into each position once.
type tour struct {
	net
	met   []bool
	tried []int // of each position, how many of its arcs have been gone along
}

// newTour has not gone anywhere yet.
func newTour(n net) *tour {
	return &tour{n, make([]bool, len(n.next)), make([]int, len(n.next))}
}

// enter tells whether at is met for the first time.
func (t *tour) enter(at int) bool {
	first := !t.met[at]
	t.met[at] = true
	return first
}

// from goes from first on, and tells what it came into, in the order in which it went out again.
func (t *tour) from(first int) []int {
	if !t.enter(first) {
		return nil
	}
	var left []int
	way := []int{first}
deeper:
	for len(way) > 0 {
		last := len(way) - 1
		at := way[last]
		for _, a := range t.next[at][t.tried[at]:] {
			t.tried[at]++
			if t.enter(a.To) {
				way = append(way, a.To)
				continue deeper
			}
		}
		left = append(left, at)
		way = way[:last]
	}
	return left
}

// parts names, for each position, one of its part: from each of a part a way leads to each.
func (n net) parts() []int {
	var left []int
	out := newTour(n)
	for at := range n.next {
		left = append(left, out.from(at)...)
	}
	names := make([]int, len(n.next))
	home := newTour(n.turned())
	// From the one that was left last on: it leads to whatever leads there and is of no part yet.
	for _, at := range slices.Backward(left) {
		for _, of := range home.from(at) {
			names[of] = at
		}
	}
	return names
}

// paid tells the first arc that costs and is in a round.
func (n net) paid() (api.Arc, bool) {
	parts := n.parts()
	for _, arcs := range n.next {
		for _, a := range arcs {
			if a.W > 0 && parts[a.From] == parts[a.To] {
				return a, true
			}
		}
	}
	return api.Arc{}, false
}
