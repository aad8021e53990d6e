package side

import (
	"hyphen/api"
)

// trimmer tells which positions are of use, and tells them anew.
type trimmer struct {
	net
	names []int // of each position, which one it is from now on; -1: it is of no use
	count int   // how many are of use
}

// newTrimmer finds out which of n's positions are of use.
func newTrimmer(n net) trimmer {
	ahead, behind := make([][]int, len(n.Sets)), make([][]int, len(n.Sets))
	for _, a := range n.Arcs {
		ahead[a.To] = append(ahead[a.To], a.From)
		behind[a.From] = append(behind[a.From], a.To)
	}
	t := trimmer{net: n}
	begun, ended := n.reached(n.First, behind), n.reached(n.Ends, ahead)
	for at := range n.Sets {
		t.name(begun[at] && ended[at])
	}
	return t
}

// reached tells of each position whether a way leads there from one that costs does not forbid, step by step, by open ones alone.
func (n net) reached(costs []int, steps [][]int) []bool {
	is := make([]bool, len(costs))
	var work []int
	reach := func(at int) {
		if !is[at] && n.isOpen(at) {
			is[at] = true
			work = append(work, at)
		}
	}
	for at, cost := range costs {
		if cost < api.Inf {
			reach(at)
		}
	}
	for len(work) > 0 {
		last := len(work) - 1
		at := work[last]
		work = work[:last]
		for _, to := range steps[at] {
			reach(to)
		}
	}
	return is
}

// name says of the next position whether it is of use.
func (t *trimmer) name(useful bool) {
	if !useful {
		t.names = append(t.names, -1)
		return
	}
	t.names = append(t.names, t.count)
	t.count++
}

// trimmed tells those of use anew.
func (t trimmer) trimmed() api.Side {
	s := api.Side{Sets: t.kept(t.Sets), First: t.kept(t.First), Ends: t.kept(t.Ends), None: t.None}
	for _, a := range t.Arcs {
		if from, to := t.names[a.From], t.names[a.To]; from >= 0 && to >= 0 {
			s.Arcs = append(s.Arcs, api.Arc{From: from, To: to, W: a.W})
		}
	}
	return s
}

// kept tells those of l, one of each position, whose positions are of use.
func (t trimmer) kept(l []int) []int {
	var rest []int
	for at, n := range l {
		if t.names[at] >= 0 {
			rest = append(rest, n)
		}
	}
	return rest
}
