package mini

// fewest is the states that stay: one for those that are alike.
type fewest struct {
	next  [][]int
	first []int // of each, the first one that was met of those that it stands for
	names []int // of each state that there was, which one stands for it; none, if 0 does not lead there
}

// fewest numbers the states that stay as they are first met: of each of same, all states say the same at once.
func (n net) fewest(same ...[]int) fewest {
	p, f := n.alike(same...), fewest{names: noneOf(n.size())}
	o := newOrder(p.count())
	for _, state := range n.reached() {
		f.names[state] = o.number(p.of[state])
		if f.names[state] == len(f.first) {
			f.first = append(f.first, state)
		}
	}
	for _, state := range f.first {
		f.next = append(f.next, f.renamed(n.next[state]...))
	}
	return f
}

// renamed tells, as a new list, what stands for each of states.
func (f fewest) renamed(states ...int) []int {
	row := make([]int, len(states))
	for i, state := range states {
		row[i] = f.names[state]
	}
	return row
}
