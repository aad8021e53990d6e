package mini

import (
	"slices"
	"testing"

	"hyphen/api"
	"hyphen/det"
)

// picks holds Pick against what is known.
func picks(t *testing.T, machine string, labels []int, want string) {
	t.Helper()
	if g := Pick(fwdOf(t, machine), labels); tellFwd(g) != want {
		t.Errorf("P1102: Pick of %s, %v: %s, not %s", machine, labels, tellFwd(g), want)
	}
}

// two has three Vecs in each Emit; 0 leads to both its states.
const two = "1 0: 1 2 3, 4 5 6, 7 8 9; 1 1: - - -, 0 0 0, 3 - 1"

// Labels: none, one, one twice, all, in another order (P1102).
func TestPick(t *testing.T) {
	picks(t, two, nil, "1 0: ; 1 1: ")
	picks(t, two, []int{}, "1 0: ; 1 1: ")
	picks(t, two, []int{0}, "1 0: 1 2 3; 1 1: - - -")
	picks(t, two, []int{1}, "1 0: 4 5 6; 1 1: 0 0 0")
	picks(t, two, []int{2}, "1 0: 7 8 9; 1 1: 3 - 1")
	picks(t, two, []int{2, 2}, "1 0: 7 8 9, 7 8 9; 1 1: 3 - 1, 3 - 1")
	picks(t, two, []int{1, 0, 1}, "1 0: 4 5 6, 1 2 3, 4 5 6; 1 1: 0 0 0, - - -, 0 0 0")
	picks(t, two, []int{0, 1, 2}, two)
	picks(t, two, []int{2, 0, 1}, "1 0: 7 8 9, 1 2 3, 4 5 6; 1 1: 3 - 1, - - -, 0 0 0")
	picks(t, two, []int{2, 1, 0}, "1 0: 7 8 9, 4 5 6, 1 2 3; 1 1: 3 - 1, 0 0 0, - - -")
	picks(t, two, []int{0, 2, 0, 0, 1, 2}, "1 0: 1 2 3, 7 8 9, 1 2 3, 1 2 3, 4 5 6, 7 8 9; 1 1: - - -, 3 - 1, - - -, - - -, 0 0 0, 3 - 1")
}

// Of Emits without a Vec there is nothing to pick but nothing; of no letters, or of one state, Pick is as ever (P1102).
func TestPickOfLittle(t *testing.T) {
	picks(t, "0 0: ", nil, "0 0: ")
	picks(t, "1 0: ; 1 1: ", nil, "1 0: ; 1 1: ")
	picks(t, ": 1 2 3, 4 5 6", []int{1}, ": 4 5 6")
	picks(t, "0: 1 2 3", []int{0, 0}, "0: 1 2 3, 1 2 3")
}

// No state is left out, or numbered anew: neither one that 0 does not lead to, nor one that is there twice, nor ones that are alike once picked (P1102).
func TestPickKeepsStates(t *testing.T) {
	picks(t, "2 1: 1 1 1, 2 2 2; 0 0: 1 1 1, 3 3 3; 0 0: 1 1 1, 2 2 2; 3 1: 1 1 1, 2 2 2; 0 0: 1 1 1, 3 3 3", []int{0}, "2 1: 1 1 1; 0 0: 1 1 1; 0 0: 1 1 1; 3 1: 1 1 1; 0 0: 1 1 1")
}

// Those picked alone tell states apart (P1101, P1102).
func TestFewestOfPicked(t *testing.T) {
	f := fwdOf(t, "2 1: 1 1 1, 2 2 2, 0 0 0; 0 0: 1 1 1, 3 3 3, 0 0 0; 0 0: 1 1 1, 2 2 2, 1 0 0")
	for _, x := range []struct {
		labels      []int
		want, names string
	}{
		{nil, "0 0: ", "0 0 0"},
		{[]int{0, 0}, "0 0: 1 1 1, 1 1 1", "0 0 0"},
		{[]int{0, 1}, "1 2: 1 1 1, 2 2 2; 0 0: 1 1 1, 2 2 2; 0 0: 1 1 1, 3 3 3", "0 2 1"},
		{[]int{2}, "1 2: 0 0 0; 0 0: 1 0 0; 0 0: 0 0 0", "0 2 1"},
	} {
		if g, names := Fwd(Pick(f, x.labels)); tellFwd(g) != x.want || row(names) != x.names {
			t.Errorf("P1101: Fwd of Pick of %v: %s, names %v; not %s, names %s", x.labels, tellFwd(g), names, x.want, x.names)
		}
	}
}

// Thrown machines: what is picked says of any text at a label what the machine says at the one that was picked (P1102).
func TestPickSays(t *testing.T) {
	d := &dice{43}
	for range 2000 {
		many := 1 + d.of(4)
		f := saying(d.machine(1+d.of(6), 1+d.of(3), 9), func(out int) []api.Vec {
			var l []api.Vec
			for i := range many {
				l = append(l, api.Vec{out, i, d.of(5)})
			}
			return l
		})
		var labels, text []int
		for range 1 + d.of(5) {
			labels = append(labels, d.of(many))
		}
		for range d.of(9) {
			text = append(text, d.of(letters(f.Next)))
		}
		g := Pick(f, labels)
		if len(g.Next) != len(f.Next) || len(g.Emit) != len(f.Emit) {
			t.Fatalf("P1102: Pick of %s, %v: %s", tellFwd(f), labels, tellFwd(g))
		}
		for at, label := range labels {
			got := det.Run(g, text, slices.Repeat([]int{at}, len(text)+1))
			want := det.Run(f, text, slices.Repeat([]int{label}, len(text)+1))
			if !slices.Equal(got, want) {
				t.Fatalf("P1102: Pick of %s, %v: %s, over %v: %v, not %v", tellFwd(f), labels, tellFwd(g), text, got, want)
			}
		}
	}
}
