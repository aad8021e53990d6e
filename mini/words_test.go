package mini

import (
	"slices"
	"testing"

	"hyphen/api"
	"hyphen/back"
	"hyphen/det"
)

// Thrown machines: what the words make, number by number (P1101).
func TestByTheWords(t *testing.T) {
	d := &dice{3}
	fewer, late, left := 0, 0, 0
	for range 6000 {
		b := d.machine(1+d.of(6), pick(d, 0, 1, 1, 2, 2, 2, 3), 1+d.of(3))
		if len(b.Next) > 1 && d.of(3) == 0 {
			b = d.machine(5, 2, 1)
			b.Out[d.of(5)] = 1
		}
		want, names := plainly(b)
		leaves(t, tellBack(b), tellBack(want), row(names))
		if t.Failed() {
			t.FailNow()
		}
		if len(want.Next) < len(b.Next) {
			fewer++
		}
		if slices.Max(want.Out) == 1 && len(want.Next) > 3 {
			late++
		}
		if slices.Contains(names, -1) {
			left++
		}
	}
	if fewer < 1000 || late < 1000 || left < 1000 {
		t.Errorf("of only %d machines fewer states stay, only %d have states that are apart later, only %d have ones that 0 does not lead to", fewer, late, left)
	}
}

// isFewest tells, by pairs, whether no two states of b are alike, and whether they are numbered as they are first met.
func isFewest(b api.Back) bool {
	met := 1
	for state, next := range b.Next {
		if state >= met {
			return false
		}
		for _, to := range next {
			if to > met {
				return false
			}
			met = max(met, to+1)
		}
	}
	apart := make([][]bool, len(b.Next))
	for i := range apart {
		apart[i] = make([]bool, len(b.Next))
	}
	for again := true; again; {
		again = false
		for i := range b.Next {
			for k := range b.Next {
				is := b.Out[i] != b.Out[k]
				for letter, to := range b.Next[i] {
					is = is || apart[to][b.Next[k][letter]]
				}
				if is && !apart[i][k] {
					apart[i][k], again = true, true
				}
			}
		}
	}
	for i := range apart {
		for k, is := range apart[i] {
			if i != k && !is {
				return false
			}
		}
	}
	return met == len(b.Next)
}

// checkSays holds b and c, which is told of it, against each other: names lead from the one to the other, and of any text both say the same.
func checkSays(t *testing.T, d *dice, b, c api.Back, names []int) {
	t.Helper()
	if len(names) != len(b.Next) || names[0] != 0 {
		t.Fatalf("P1101: Back of %s: names %v", tellBack(b), names)
	}
	reached := map[int]int{0: 0}
	for range 20 {
		var text []int
		for range d.of(3 * len(b.Next)) {
			text = append(text, d.of(letters(b.Next)))
		}
		state := led(b.Next, 0, text)
		reached[state]++
		if names[state] != led(c.Next, 0, text) {
			t.Fatalf("P1101: Back of %s: %s, names %v", tellBack(b), tellBack(c), names)
		}
		if got, want := back.Run(c, text), back.Run(b, text); !slices.Equal(got, want) {
			t.Fatalf("P1101: Back of %s: %s, over %v: %v, not %v", tellBack(b), tellBack(c), text, got, want)
		}
	}
	for state, name := range names {
		if reached[state] > 0 && name < 0 || name >= 0 && c.Out[name] != b.Out[state] {
			t.Fatalf("P1101: Back of %s: %s, names %v", tellBack(b), tellBack(c), names)
		}
	}
}

// Greater ones, with many states alike: no two of what is told are, and it says the same of any text (P1101, P1103).
func TestSaysTheSame(t *testing.T) {
	d := &dice{5}
	most := 0
	for range 1500 {
		b := d.machine(1+d.of(30), 1+d.of(3), 1+d.of(3))
		if d.of(4) > 0 {
			b = d.blown(b, 1+d.of(4), d.of(9))
		}
		c, names := Back(b)
		if !isFewest(c) {
			t.Fatalf("P1103: Back of %s: %s", tellBack(b), tellBack(c))
		}
		most = max(most, len(c.Next))
		checkSays(t, d, b, c, names)
	}
	if most < 25 {
		t.Errorf("P1101: no machine of more than %d states is told", most)
	}
}

// So of Fwd: over any text, whatever labels (P1101).
func TestFwdSaysTheSame(t *testing.T) {
	d := &dice{7}
	for range 1500 {
		many := 1 + d.of(3)
		b := d.blown(d.machine(1+d.of(9), 1+d.of(3), 1+d.of(3)), 1+d.of(3), d.of(5))
		f := saying(b, func(out int) []api.Vec { return slices.Repeat(plain(out)[1:], many) })
		g, names := Fwd(f)
		if c, same := Back(b); tellFwd(g) != tellFwd(saying(c, func(out int) []api.Vec { return slices.Repeat(plain(out)[1:], many) })) || !slices.Equal(names, same) {
			t.Fatalf("P1101: Fwd of %s: %s, names %v", tellFwd(f), tellFwd(g), names)
		}
		var text, labels []int
		for range d.of(20) {
			text = append(text, d.of(letters(b.Next)))
		}
		for range len(text) + 1 {
			labels = append(labels, d.of(many))
		}
		if got, want := det.Run(g, text, labels), det.Run(f, text, labels); !slices.Equal(got, want) {
			t.Fatalf("P1101: Fwd of %s: %s, over %v, %v: %v, not %v", tellFwd(f), tellFwd(g), text, labels, got, want)
		}
	}
}

// A machine of fewest states is told as it is, and its names are 0, 1, 2 and so on (P1101, P1103).
func TestFewestStays(t *testing.T) {
	d := &dice{11}
	for range 2000 {
		c, _ := Back(d.machine(1+d.of(20), d.of(4), 1+d.of(4)))
		stays(t, tellBack(c))
		if t.Failed() {
			t.FailNow()
		}
	}
}

// What says the same is told the same, whatever states there are, in whatever order (P1103, T3).
func TestSameOfTheSame(t *testing.T) {
	d := &dice{13}
	blown := 0
	for range 2000 {
		b := d.machine(1+d.of(12), d.of(4), 1+d.of(3))
		want, _ := Back(b)
		for range 3 {
			other := d.blown(b, 1+d.of(4), d.of(7))
			if got, names := Back(other); tellBack(got) != tellBack(want) || len(names) != len(other.Next) {
				t.Fatalf("P1103: Back of %s: %s; of %s, which says the same: %s", tellBack(b), tellBack(want), tellBack(other), tellBack(got))
			}
			if got, _ := Fwd(saying(other, plain)); tellFwd(got) != tellFwd(saying(want, plain)) {
				t.Fatalf("P1103: Fwd of %s: %s, not %s", tellBack(other), tellFwd(got), tellFwd(saying(want, plain)))
			}
			if len(other.Next) > 2*len(want.Next) {
				blown++
			}
		}
	}
	if blown < 2000 {
		t.Errorf("P1103: only %d machines had many more states", blown)
	}
}

// machines tells all of so many states and letters, with an Out of each state of 0 to outs - 1.
func machines(states, letters, outs int) []api.Back {
	l := []api.Back{{}}
	for range states {
		var longer []api.Back
		for _, b := range l {
			for _, next := range tuples(letters, states) {
				for out := range outs {
					longer = append(longer, api.Back{Next: append(slices.Clone(b.Next), next), Out: append(slices.Clone(b.Out), out)})
				}
			}
		}
		l = longer
	}
	return l
}

// tuples tells all rows of so many numbers of 0 to below.
func tuples(length, below int) [][]int {
	l := [][]int{nil}
	for range length {
		var longer [][]int
		for _, row := range l {
			for n := range below {
				longer = append(longer, append(slices.Clone(row), n))
			}
		}
		l = longer
	}
	return l
}

// All machines of a few states: what is told has as many states as the least of those that say the same, and is the same for all of them (P1103, T3).
func TestNoneIsOfFewer(t *testing.T) {
	for _, letters := range []int{1, 2} {
		told, least := map[string]string{}, map[string]int{}
		texts := words(letters, 5) // of two machines of up to three states, which are not alike, one of these tells
		for states := 1; states <= 3; states++ {
			for _, b := range machines(states, letters, 2) {
				said := ""
				for _, text := range texts {
					said += string(rune('0' + b.Out[led(b.Next, 0, text)]))
				}
				c, _ := Back(b)
				if _, is := least[said]; !is {
					least[said], told[said] = states, tellBack(c)
				}
				if len(c.Next) != least[said] || tellBack(c) != told[said] {
					t.Fatalf("P1103: Back of %s: %s; of one of %d states, which says the same: %s", tellBack(b), tellBack(c), least[said], told[said])
				}
			}
		}
	}
}
