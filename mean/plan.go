package mean

import (
	"slices"
	"sort"

	"hyphen/api"
	"hyphen/syn"
	"hyphen/trop"
)

// plan is how a pattern is gone along.
type plan struct {
	none int         // the least that a match of no scalar costs
	size int         // how many steps a walk makes for each scalar
	walk func() walk // a new one
}

// costs tells, of each place from from to to, the least that a match costs that ends there: one that begins at from, or further on, where later is paid ahead of it.
func (p plan) costs(from, to, later int) []int {
	w := p.walk()
	w.begin(from, 0)
	least := []int{p.none}
	for at := from; at < to; at++ {
		n := w.next(at)
		w.begin(at+1, later)
		least = append(least, trop.Min(n, trop.Add(later, p.none)))
	}
	return least
}

// part is a new part of a walk along more than p.
func (p plan) part() part {
	return part{p.walk(), p.none, api.Inf}
}

// planner makes plans for patterns over one text.
type planner struct {
	defs   []api.Def
	in     [][]bool // of each Def, of each scalar of the text, whether it has it
	all    []bool   // so of any
	uses   int      // of how many parts of a whole walk this one is the plan; up to one more than there are scalars
	weighs bool     // whether weights count
	turns  bool     // whether the text stands from its end to its beginning
}

// newPlanner makes one for which no weight counts.
func newPlanner(f api.File, text []int) planner {
	p := planner{defs: f.Defs, all: slices.Repeat([]bool{true}, len(text)), uses: 1}
	for _, l := range syn.Sets(f) {
		p.in = append(p.in, marks(l, text))
	}
	return p
}

// weighing is p, but weights count.
func (p planner) weighing() planner {
	p.weighs = true
	return p
}

// turning is p, but of patterns the end is met first.
func (p planner) turning() planner {
	p.turns = true
	return p
}

// marks tells of each scalar of text whether l, rising ranges, has it.
func marks(l []api.Range, text []int) []bool {
	var has []bool
	for _, n := range text {
		i := sort.Search(len(l), func(i int) bool { return n <= l[i].Hi })
		has = append(has, i < len(l) && l[i].Lo <= n)
	}
	return has
}

// costs tells, of each place, the least that a match of x costs that ends there: one that begins at place 0, or further on, where later is paid ahead of it.
func (p planner) costs(x api.Rex, later int) []int {
	return p.plan(x).costs(0, len(p.all), later)
}

// plan makes x's plan; what is no pattern matches nothing at all.
func (p planner) plan(x api.Rex) plan {
	kinds := [...]func(planner, api.Rex) plan{
		api.RNone:   planner.nothing,
		api.RSet:    planner.set,
		api.RAny:    planner.any,
		api.RCat:    planner.row,
		api.RAlt:    planner.either,
		api.RStar:   planner.star,
		api.RTimes:  planner.times,
		api.RWeight: planner.weight,
	}
	if x.Kind < api.RNone || x.Kind >= len(kinds) {
		return never()
	}
	return p.bounded(kinds[x.Kind](p, x))
}

// plans makes a plan of each of l.
func (p planner) plans(l ...api.Rex) []plan {
	var all []plan
	for _, x := range l {
		all = append(all, p.plan(x))
	}
	return all
}

// bounded is a, or what goes by a table of all that a matches.
func (p planner) bounded(a plan) plan {
	size := len(p.all)
	// Repeats within repeats would multiply their steps without end. A table takes a walk from each place: it pays where more are asked for.
	if p.uses <= size || a.size <= size {
		return a
	}
	var rows [][]int
	for from := range size {
		rows = append(rows, a.costs(from, size, api.Inf))
	}
	return plan{a.none, size, func() walk { return &looked{rows: rows} }}
}

// never is the plan of what matches nothing at all.
func never() plan {
	return plan{api.Inf, 1, func() walk { return idle{} }}
}

// nothing: of what matches no scalar alone.
func (p planner) nothing(api.Rex) plan {
	return plan{0, 1, func() walk { return idle{} }}
}

// set: of one scalar that the Def of x's name has.
func (p planner) set(x api.Rex) plan {
	i := slices.IndexFunc(p.defs, func(d api.Def) bool { return d.Name == x.Name })
	if i < 0 {
		return never()
	}
	return one(p.in[i])
}

// any: of any one scalar.
func (p planner) any(api.Rex) plan {
	return one(p.all)
}

// one is the plan of one of those scalars that has marks.
func one(has []bool) plan {
	return plan{api.Inf, 1, func() walk { return &single{has, api.Inf} }}
}

// row: of one, then the other.
func (p planner) row(x api.Rex) plan {
	l := p.plans(child(x, 0), child(x, 1))
	if p.turns {
		slices.Reverse(l)
	}
	return inRow(l...)
}

// inRow is the plan of one behind the other.
func inRow(l ...plan) plan {
	whole := plan{size: 1}
	for _, a := range l {
		whole.none = trop.Add(whole.none, a.none)
		whole.size += a.size
	}
	whole.walk = func() walk {
		var r row
		for _, a := range l {
			r = append(r, a.part())
		}
		return r
	}
	return whole
}

// either: of one or the other.
func (p planner) either(x api.Rex) plan {
	return anyOf(p.plans(child(x, 0), child(x, 1))...)
}

// anyOf is the plan of one of several.
func anyOf(l ...plan) plan {
	whole := plan{none: api.Inf, size: 1}
	for _, a := range l {
		whole.none = trop.Min(whole.none, a.none)
		whole.size += a.size
	}
	whole.walk = func() walk {
		var e either
		for _, a := range l {
			e = append(e, a.walk())
		}
		return e
	}
	return whole
}

// star: of any number, one behind the other.
func (p planner) star(x api.Rex) plan {
	a := p.plan(child(x, 0))
	return plan{0, a.size + 1, func() walk { return &star{a.part()} }}
}

// times: of some number, one behind the other.
func (p planner) times(x api.Rex) plan {
	if x.Hi < max(x.Lo, 0) {
		return never()
	}
	// Rounds that match no scalar need no walk: of others there are no more than scalars.
	most := min(x.Hi, len(p.all))
	p.uses = min(p.uses*most, len(p.all)+1)
	a := p.plan(child(x, 0))
	return plan{many(a.none, x.Lo), most*a.size + 1, func() walk {
		t := times{least: x.Lo}
		for range most {
			t.rounds = append(t.rounds, a.part())
		}
		return t
	}}
}

// weight: of what costs more.
func (p planner) weight(x api.Rex) plan {
	a := p.plan(child(x, 0))
	if !p.weighs {
		return a
	}
	return plan{trop.Add(a.none, x.W), a.size + 1, func() walk { return weighed{a.walk(), x.W} }}
}

// child tells what x is made of; what is no pattern, where x lacks it.
func child(x api.Rex, i int) api.Rex {
	if i < len(x.L) {
		return x.L[i]
	}
	return api.Rex{}
}

// many tells what k cost together that cost n each; of less than one nothing.
func many(n, k int) int {
	k = max(k, 0)
	// Divided, so that no product can wrap round.
	if n > 0 && k > api.Inf/n {
		return api.Inf
	}
	return n * k
}
