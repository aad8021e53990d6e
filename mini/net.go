package mini

// net is states, and where they lead, by states and letters.
type net struct {
	next [][]int
}

// size tells how many states there are.
func (n net) size() int {
	return len(n.next)
}

// leads tells whether there is one state or more, each of as many letters, and all lead to states.
func (n net) leads() bool {
	for _, row := range n.next {
		if len(row) != len(n.next[0]) {
			return false
		}
		for _, to := range row {
			if to < 0 || to >= n.size() {
				return false
			}
		}
	}
	return n.size() > 0
}

// reached tells the states that 0 leads to, as they are first met, state by state, letter by letter.
func (n net) reached() []int {
	o := newOrder(n.size())
	o.number(0)
	for at := 0; at < len(o.met); at++ {
		for _, to := range n.next[o.met[at]] {
			o.number(to)
		}
	}
	return o.met
}

// alike tells which states are, those of one part: of each of same, all states say the same at once.
// Each part is asked once, ahead of those split off later, which states lead into it by which letter: those that do are not alike to those that do not.
// The new part is always the shorter one, so that no state is asked for often: the call ends soon, however late states come apart.
func (n net) alike(same ...[]int) parts {
	p, ways := newParts(n.size()), n.ways()
	for _, states := range same {
		p.mark(states...)
		p.split()
	}
	for part := 0; part < p.count(); part++ {
		states := p.members(part)
		for _, w := range ways {
			for _, to := range states {
				for from := w.last[to]; from != none; from = w.other[from] {
					p.mark(from)
				}
			}
			p.split()
		}
	}
	return p
}

// way is how one letter leads to states.
type way struct {
	last  []int // of each state, one that leads to it; none
	other []int // of each state, another one that leads where it does; none
}

// ways tells that of each letter.
func (n net) ways() []way {
	var l []way
	for letter := range n.next[0] {
		w := way{noneOf(n.size()), noneOf(n.size())}
		for from, row := range n.next {
			to := row[letter]
			w.other[from], w.last[to] = w.last[to], from
		}
		l = append(l, w)
	}
	return l
}
