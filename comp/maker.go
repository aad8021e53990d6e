package comp

import (
	"hyphen/api"
	"hyphen/back"
	"hyphen/det"
	"hyphen/mini"
	"hyphen/side"
	"hyphen/twin"
)

// maker makes a file's table, step by step. Each step needs what those ahead of it found.
type maker struct {
	api.File
	alphabet
	budget        int
	lefts, rights []api.Side // of each Rule, trimmed
	ahead         api.Back
	sets          [][]bool // rows of which Rules' Rights hold, by ahead's Outs
	behind        api.Fwd
}

// newMaker has taken no step yet.
func newMaker(f api.File, budget int) *maker {
	return &maker{File: f, alphabet: newAlphabet(f), budget: budget}
}

// lay lays out both sides of each Rule as positions, if they are not too many.
func (m *maker) lay() Fault {
	for i, r := range m.Rules {
		left, isLeft := side.Make(r.Left, m.File)
		right, isRight := side.Make(r.Right, m.File)
		if !isLeft || !isRight {
			return Fault{E: api.Large, Rule: i}
		}
		m.lefts, m.rights = append(m.lefts, side.Trim(left, m.in)), append(m.rights, side.Trim(right, m.in))
	}
	return Fault{}
}

// check looks for rounds that cost: rows of costs would have no end.
func (m *maker) check() Fault {
	for i, left := range m.lefts {
		if round, is := twin.Round(left); is {
			// What is trimmed has a way to each of its positions.
			way, _ := twin.Way(left, round[0])
			return Fault{E: api.NotTwins, Rule: i, Way: way, Round: round}
		}
	}
	return Fault{}
}

// lookAhead makes the machine that goes from a text's end.
func (m *maker) lookAhead() Fault {
	var e api.Errno
	m.ahead, m.sets, e = back.Make(m.rights, m.in, m.count(), m.budget)
	return Fault{E: e}
}

// lookBehind makes the one that goes from its beginning.
func (m *maker) lookBehind() Fault {
	var e api.Errno
	m.behind, e = det.Make(m.Rules, m.lefts, m.in, m.count(), m.sets, m.budget)
	return Fault{E: e}
}

// table tells both machines in as few states as can be, and the letters that they go by.
func (m *maker) table() api.Table {
	b, _ := mini.Back(m.ahead)
	outs, labels := anew(b.Out)
	f, _ := mini.Fwd(mini.Pick(m.behind, labels))
	return api.Table{Cuts: m.cuts, Letters: m.letters, B: api.Back{Next: b.Next, Out: outs}, F: f}
}

// anew numbers outs from 0 on as they first come; labels: which out each number stands for.
func anew(outs []int) (numbered, labels []int) {
	numbers := map[int]int{}
	for _, out := range outs {
		number, is := numbers[out]
		if !is {
			number = len(labels)
			numbers[out] = number
			labels = append(labels, out)
		}
		numbered = append(numbered, number)
	}
	return numbered, labels
}
