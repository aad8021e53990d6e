package back

import (
	"slices"
	"testing"

	"hyphen/api"
)

// Thrown sides: the machine that the words make, number by number (P901).
func TestMakeByTheWords(t *testing.T) {
	d := &dice{3}
	held, states, rows := 0, 0, 0
	for range 6000 {
		defs, letters := d.of(5), pick(d, 0, 1, 2, 3, 3, 4, 4)
		l, in := d.sides(4, 7, defs), d.grid(defs, letters)
		p, is := plainly(l, in, letters, 60)
		if !is {
			continue
		}
		held++
		if len(p.texts) > 5 {
			states++
		}
		if len(p.sets) > 2 {
			rows++
		}
		if got := says(l, in, letters, plenty); got != p.says() {
			t.Fatalf("P901: Make of %v, in %v: %s, not %s", l, in, got, p.says())
		}
	}
	if held < 4000 || states < 700 || rows < 400 {
		t.Errorf("only %d machines were held, %d of them with many states, %d with many rows", held, states, rows)
	}
}

// isMachine tells whether b's states and Outs are numbered as they are first met, and all of sets are there.
func isMachine(b api.Back, sets [][]bool, letters int) bool {
	next, out := 1, 0
	for at, row := range b.Next {
		if at >= next || len(row) != letters || b.Out[at] < 0 || b.Out[at] > out {
			return false
		}
		for _, to := range row {
			if to < 0 || to > next {
				return false
			}
			next = max(next, to+1)
		}
		out = max(out, b.Out[at]+1)
	}
	return len(b.Next) == next && len(b.Out) == next && len(sets) == out && b.Out[0] == 0
}

// isOnce tells whether no row is there twice.
func isOnce(sets [][]bool) bool {
	for i, row := range sets {
		if slices.ContainsFunc(sets[:i], func(z []bool) bool { return slices.Equal(row, z) }) {
			return false
		}
	}
	return true
}

// Thrown sides, and greater ones: what holds of every machine (P901); what it tells of texts is what the words do (P901, P902).
func TestMachinesAndTexts(t *testing.T) {
	d := &dice{5}
	states := 0
	for range 1200 {
		defs, letters := d.of(5), 1+d.of(5)
		l, in := d.sides(6, 9, defs), d.grid(defs, letters)
		b, sets, e := Make(l, in, letters, 20000)
		if e == api.Budget {
			continue
		}
		states = max(states, len(b.Next))
		if e != api.OK || !isMachine(b, sets, letters) || !isOnce(sets) {
			t.Fatalf("P901: Make of %v, in %v: %v, %v, %v", l, in, b, sets, e)
		}
		for range 3 {
			text := d.text(9, letters)
			outs := Run(b, text)
			if len(outs) != len(text)+1 {
				t.Fatalf("P902: Run over %v: %v", text, outs)
			}
			for place, out := range outs {
				if want := all(l, func(s api.Side) bool { return holds(s, in, text, place) }); !slices.Equal(sets[out], want) {
					t.Fatalf("P901: of %v, in %v: %v at %d: %v, not %v", l, in, text, place, sets[out], want)
				}
			}
		}
	}
	if states < 100 {
		t.Errorf("no machine has more than %d states", states)
	}
}
