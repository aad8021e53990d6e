package mean

import (
	"hyphen/api"
	"hyphen/trop"
)

// walk goes along a text, and keeps what the matches cost that are under way. At each place it is told what to begin there costs; between two it goes on.
type walk interface {
	// begin says that a match may begin at place at, where n was paid.
	begin(at, n int)
	// next goes over scalar at: the least that a match costs that ends behind it. Those of no scalar are the asker's: so no walk goes round in one place.
	next(at int) int
}

// part is a walk along a part of a pattern.
type part struct {
	walk
	none  int // the least that a match of no scalar costs
	ended int // what next told last
}

// step goes over scalar at, and keeps what next tells.
func (p *part) step(at int) int {
	p.ended = p.next(at)
	return p.ended
}

// idle is along what has no match with a scalar.
type idle struct{}

func (idle) begin(at, n int) {}

func (idle) next(at int) int { return api.Inf }

// single is along one scalar.
type single struct {
	has  []bool // of each scalar of the text, whether it is such a one
	paid int
}

func (s *single) begin(at, n int) { s.paid = n }

func (s *single) next(at int) int {
	if s.has[at] {
		return s.paid
	}
	return api.Inf
}

// row is along parts, one behind the other.
type row []part

func (r row) begin(at, n int) {
	for i := range r {
		r[i].begin(at, n)
		n = trop.Min(r[i].ended, trop.Add(n, r[i].none))
	}
}

func (r row) next(at int) int {
	n := api.Inf
	for i := range r {
		n = trop.Add(n, r[i].none)
		n = trop.Min(n, r[i].step(at))
	}
	return n
}

// either is along several, side by side.
type either []walk

func (e either) begin(at, n int) {
	for _, w := range e {
		w.begin(at, n)
	}
}

func (e either) next(at int) int {
	n := api.Inf
	for _, w := range e {
		n = trop.Min(n, w.next(at))
	}
	return n
}

// star is along any number of rounds. One of no scalar makes nothing cheaper.
type star struct{ part }

func (s *star) begin(at, n int) { s.part.begin(at, trop.Min(n, s.ended)) }

func (s *star) next(at int) int { return s.step(at) }

// times is along rounds with a scalar, one behind the other; those that lack to the least number match none.
type times struct {
	rounds []part
	least  int
}

func (t times) begin(at, n int) {
	for i := range t.rounds {
		t.rounds[i].begin(at, n)
		n = t.rounds[i].ended
	}
}

func (t times) next(at int) int {
	n := api.Inf
	for i := range t.rounds {
		r := &t.rounds[i]
		n = trop.Min(n, trop.Add(r.step(at), many(r.none, t.least-i-1)))
	}
	return n
}

// weighed is along what costs more.
type weighed struct {
	walk
	w int
}

func (w weighed) next(at int) int { return trop.Add(w.walk.next(at), w.w) }

// looked goes by a table.
type looked struct {
	rows  [][]int // of each place, of each one from there on, the least that a match from the one to the other costs
	begun []begun
}

// begun is a match that began at place at, where paid was paid.
type begun struct{ at, paid int }

func (l *looked) begin(at, n int) {
	if n < api.Inf {
		l.begun = append(l.begun, begun{at, n})
	}
}

func (l *looked) next(at int) int {
	n := api.Inf
	for _, b := range l.begun {
		n = trop.Min(n, trop.Add(b.paid, l.rows[b.at][at+1-b.at]))
	}
	return n
}
