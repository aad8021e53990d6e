package det

import (
	"testing"

	"hyphen/api"
)

// isMachine tells whether f's states are numbered as they are first met, each with a Vec for each row of sets.
func isMachine(f api.Fwd, letters, sets int) bool {
	next := 1
	for at, row := range f.Next {
		if at >= next || len(row) != letters || len(f.Emit[at]) != sets {
			return false
		}
		for _, to := range row {
			if to < 0 || to > next {
				return false
			}
			next = max(next, to+1)
		}
	}
	return len(f.Next) == next && len(f.Emit) == next
}

// weighs tells whether rows of costs tell more of g's states apart than which positions ways lead to.
func (g given) weighs(f api.Fwd) bool {
	flat := given{in: g.in, letters: g.letters, rules: g.rules, sets: g.sets}
	for _, s := range g.sides {
		z := api.Side{Sets: s.Sets, Ends: s.Ends, None: s.None}
		for _, cost := range s.First {
			if cost < api.Inf {
				cost = 0
			}
			z.First = append(z.First, cost)
		}
		for _, a := range s.Arcs {
			z.Arcs = append(z.Arcs, api.Arc{From: a.From, To: a.To})
		}
		flat.sides = append(flat.sides, z)
	}
	h, _ := flat.made(plenty)
	return len(h.Next) < len(f.Next)
}

// Thrown sides: the machine that the words make, number by number (P1001).
func TestMakeByTheWords(t *testing.T) {
	d := &dice{3}
	held, states, weighed := 0, 0, 0
	for range 6000 {
		g := d.given(4, 6, d.of(5), pick(d, 0, 1, 2, 3, 3, 4, 4))
		f, is := g.plainly(60)
		if !is {
			continue
		}
		held++
		if len(f.Next) > 5 {
			states++
		}
		if g.weighs(f) {
			weighed++
		}
		if got, want := g.says(plenty), tell(f, api.OK); got != want {
			t.Fatalf("P1001: Make of %v: %s, not %s", g, got, want)
		}
	}
	if held < 4000 || states < 700 || weighed < 400 {
		t.Errorf("only %d machines were held, %d of them with many states, %d with rows that costs tell apart", held, states, weighed)
	}
}

// Thrown sides, and greater ones: what holds of every machine (P1001); what it tells of texts is what the words do (P1001, P1002).
func TestMachinesAndTexts(t *testing.T) {
	d := &dice{5}
	states := 0
	for range 1200 {
		letters := 1 + d.of(5)
		g := d.given(6, 9, d.of(5), letters)
		g.sets = append(g.sets, make([]bool, len(g.rules)))
		f, e := g.made(20000)
		if e == api.Budget {
			continue
		}
		states = max(states, len(f.Next))
		if e != api.OK || !isMachine(f, letters, len(g.sets)) {
			t.Fatalf("P1001: Make of %v: %v, %v", g, f, e)
		}
		for range 3 {
			text := d.text(9, letters)
			labels := d.labels(text, len(g.sets))
			vecs := Run(f, text, labels)
			if len(vecs) != len(text)+1 {
				t.Fatalf("P1002: Run over %v: %v", text, vecs)
			}
			for place, v := range vecs {
				if want := g.vec(text[:place], g.sets[labels[place]]); v != want {
					t.Fatalf("P1001: of %v: %v at %d: %v, not %v", g, text, place, v, want)
				}
			}
		}
	}
	if states < 100 {
		t.Errorf("no machine has more than %d states", states)
	}
}
