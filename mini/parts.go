package mini

import (
	"slices"
)

// parts is numbers from 0 on, parted. Those of one part stand side by side, so that a part can be split by moving the marked ones alone.
type parts struct {
	all      []int  // part by part
	places   []int  // of each number, where it stands in all
	of       []int  // of each number, its part
	spans    []span // of each part
	touching []int  // the parts that have marked ones
}

// span is where in all a part stands, and how many of it, its first ones, are marked.
type span struct{ from, to, marked int }

// newParts has all in one part.
func newParts(size int) parts {
	p := parts{of: make([]int, size), spans: []span{{to: size}}}
	for n := range size {
		p.all, p.places = append(p.all, n), append(p.places, n)
	}
	return p
}

// count tells how many parts there are.
func (p *parts) count() int {
	return len(p.spans)
}

// members tells a part's, as a new list: it stays as it is when parts are split.
func (p *parts) members(part int) []int {
	s := p.spans[part]
	return slices.Clone(p.all[s.from:s.to])
}

// mark marks numbers that are not marked yet.
func (p *parts) mark(numbers ...int) {
	for _, n := range numbers {
		s := &p.spans[p.of[n]]
		if s.marked == 0 {
			p.touching = append(p.touching, p.of[n])
		}
		p.swap(p.places[n], s.from+s.marked)
		s.marked++
	}
}

// swap swaps what stands at two places.
func (p *parts) swap(a, b int) {
	p.all[a], p.all[b] = p.all[b], p.all[a]
	p.places[p.all[a]], p.places[p.all[b]] = a, b
}

// split makes two of each part that has marked ones and others, and takes the marks away. The new one is the shorter one.
func (p *parts) split() {
	for _, part := range p.touching {
		s := &p.spans[part]
		middle := s.from + s.marked
		s.marked = 0
		switch {
		case middle == s.to:
		case middle-s.from <= s.to-middle:
			begin := s.from
			s.from = middle
			p.add(begin, middle)
		default:
			end := s.to
			s.to = middle
			p.add(middle, end)
		}
	}
	p.touching = p.touching[:0]
}

// add makes a new part of what stands there.
func (p *parts) add(from, to int) {
	for _, n := range p.all[from:to] {
		p.of[n] = len(p.spans)
	}
	p.spans = append(p.spans, span{from: from, to: to})
}
