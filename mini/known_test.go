package mini

import (
	"fmt"
	"math"
	"strings"
	"testing"

	"hyphen/api"
)

// leaves holds Back, and Fwd of what says the same, against what is known.
func leaves(t *testing.T, machine, want, names string) {
	t.Helper()
	b := backOf(t, machine)
	c, got := Back(b)
	if tellBack(c) != want || row(got) != names {
		t.Errorf("P1101: Back of %s: %s, names %v; not %s, names %s", machine, tellBack(c), got, want, names)
	}
	g, got := Fwd(saying(b, plain))
	if wanted := tellFwd(saying(backOf(t, want), plain)); tellFwd(g) != wanted || row(got) != names {
		t.Errorf("P1101: Fwd of %s: %s, names %v; not %s, names %s", machine, tellFwd(g), got, wanted, names)
	}
}

// stays holds a machine of fewest states, numbered as they are first met: it is told as it is, and names are 0, 1, 2 and so on (P1101, P1103).
func stays(t *testing.T, machine string) {
	t.Helper()
	var names []string
	for i := range strings.Split(machine, ";") {
		names = append(names, fmt.Sprint(i))
	}
	leaves(t, machine, machine, strings.Join(names, " "))
}

// One state (P1101).
func TestOneState(t *testing.T) {
	stays(t, ": 0")
	stays(t, ": 7")
	stays(t, "0: 0")
	stays(t, "0: 5")
	stays(t, "0 0 0: 1")
}

// No letters: 0 leads to itself alone (P1101).
func TestNoLetters(t *testing.T) {
	leaves(t, ": 3; : 3", ": 3", "0 -1")
	leaves(t, ": 3; : 4", ": 3", "0 -1")
	leaves(t, ": 0; : 0; : 1; : 0", ": 0", "0 -1 -1 -1")
}

// States that 0 does not lead to are left out, whether they are alike to one that stays or not, and wherever they lead (P1101).
func TestNotReached(t *testing.T) {
	leaves(t, "0: 5; 0: 5", "0: 5", "0 -1")
	leaves(t, "0: 5; 0: 6", "0: 5", "0 -1")
	leaves(t, "0: 5; 1: 5", "0: 5", "0 -1")
	leaves(t, "0: 5; 1: 6", "0: 5", "0 -1")
	leaves(t, "2: 0; 1: 1; 2: 1", "1: 0; 1: 1", "0 -1 1")
	// The first one that is alike to a state that stays: it leads to none that stays.
	leaves(t, "3 3: 0; 2 1: 1; 1 2: 1; 3 3: 1", "1 1: 0; 1 1: 1", "0 -1 -1 1")
	leaves(t, "4: 0; 2: 1; 1: 2; 4: 2; 3: 1", "1: 0; 2: 1; 1: 2", "0 -1 -1 2 1")
	// They lead to those that stay, which stay one.
	leaves(t, "1: 0; 0: 0; 0: 1; 1: 2; 2: 0", "0: 0", "0 0 -1 -1 -1")
	leaves(t, "0 1: 0; 0 1: 1; 0 0: 1; 2 1: 0", "0 1: 0; 0 1: 1", "0 1 -1 -1")
}

// States that say the same are alike only if those behind them are (P1101).
func TestApartLater(t *testing.T) {
	stays(t, "1: 0; 2: 0; 3: 0; 3: 1")
	stays(t, "1: 0; 2: 0; 3: 0; 4: 0; 5: 0; 0: 1")
	leaves(t, "1: 0; 2: 0; 3: 0; 4: 0; 5: 0; 0: 0", "0: 0", "0 0 0 0 0 0")
	leaves(t, "1: 0; 2: 0; 3: 1; 4: 0; 5: 0; 0: 1", "1: 0; 2: 0; 0: 1", "0 1 2 0 1 2")
	leaves(t, "1: 0; 2: 0; 3: 1; 4: 0; 5: 0; 3: 1", "1: 0; 2: 0; 0: 1", "0 1 2 0 1 2")
	// One letter alone tells them apart, the last one or the first one, four letters on; then none does.
	stays(t, "1 2: 0; 3 3: 0; 4 4: 0; 5 5: 0; 6 6: 0; 7 7: 0; 8 8: 0; 9 10: 0; 9 9: 0; 10 10: 1; 10 10: 0")
	stays(t, "1 2: 0; 3 3: 0; 4 4: 0; 5 5: 0; 6 6: 0; 7 7: 0; 8 8: 0; 9 10: 0; 10 10: 0; 9 9: 0; 9 9: 1")
	leaves(t, "1 2: 0; 3 3: 0; 4 4: 0; 5 5: 0; 6 6: 0; 7 7: 0; 8 8: 0; 9 10: 0; 9 10: 0; 9 9: 0; 9 9: 1", "1 1: 0; 2 2: 0; 3 3: 0; 4 4: 0; 5 6: 0; 5 5: 0; 5 5: 1", "0 1 1 2 2 3 3 4 4 5 6")
	leaves(t, "1 2: 0; 3 3: 0; 4 4: 0; 5 5: 0; 6 6: 0; 7 8: 0; 7 8: 0; 7 7: 1; 8 8: 0", "1 1: 0; 2 2: 0; 3 3: 0; 4 5: 0; 4 4: 1; 5 5: 0", "0 1 1 2 2 3 3 4 5")
	// Two that lead to one another, beside two that do not.
	leaves(t, "1 3: 0; 2 1: 1; 1 2: 1; 4 3: 1; 3 0: 1", "1 2: 0; 1 1: 1; 3 2: 1; 2 0: 1", "0 1 1 2 3")
}

// States that are there twice, or more often (P1101).
func TestTwice(t *testing.T) {
	leaves(t, "1 2: 0; 1 1: 1; 1 1: 1", "1 1: 0; 1 1: 1", "0 1 1")
	leaves(t, "1 2: 0; 1 1: 1; 2 2: 1", "1 1: 0; 1 1: 1", "0 1 1")
	leaves(t, "1 2: 0; 2 2: 1; 1 1: 1", "1 1: 0; 1 1: 1", "0 1 1")
	leaves(t, "1 2: 0; 0 0: 0; 0 0: 0", "0 0: 0", "0 0 0")
	leaves(t, "1 2: 0; 1 0: 1; 2 3: 1; 1 2: 0", "1 1: 0; 1 0: 1", "0 1 1 0")
	leaves(t, "1 2 3: 0; 4 4 4: 1; 4 4 4: 1; 4 4 4: 1; 4 4 0: 2", "1 1 1: 0; 2 2 2: 1; 2 2 0: 2", "0 1 1 1 2")
}

// All alike, all different (P1101).
func TestAllAlikeOrNone(t *testing.T) {
	leaves(t, "1 2: 4; 2 0: 4; 0 1: 4", "0 0: 4", "0 0 0")
	leaves(t, "1: 9; 2: 9; 3: 9; 1: 9", "0: 9", "0 0 0 0")
	stays(t, "1 2: 0; 2 0: 1; 0 1: 2")
	stays(t, "1: 3; 2: 2; 3: 1; 0: 0")
}

// 0's is the first one, further ones come as they are first met, state by state, letter by letter (P1101).
func TestNumbering(t *testing.T) {
	leaves(t, "2 1: 0; 0 0: 1; 0 0: 2", "1 2: 0; 0 0: 2; 0 0: 1", "0 2 1")
	leaves(t, "3: 0; 0: 3; 1: 2; 2: 1", "1: 0; 2: 1; 3: 2; 0: 3", "0 3 2 1")
	// Each state's letters ahead of the next state's.
	leaves(t, "3 2: 0; 5 5: 1; 1 4: 2; 6 4: 3; 4 4: 4; 5 5: 5; 6 6: 6", "1 2: 0; 3 4: 3; 5 4: 2; 3 3: 6; 4 4: 4; 6 6: 1; 6 6: 5", "0 5 2 1 4 6 3")
	// Of those that are alike the first one that is met counts.
	leaves(t, "4 3: 0; 0 0: 1; 0 0: 2; 2 1: 3; 1 1: 4", "1 2: 0; 3 3: 4; 4 3: 3; 0 0: 1; 0 0: 2", "0 3 4 2 1")
	leaves(t, "5 4: 0; 0 0: 1; 0 0: 2; 0 0: 1; 2 1: 3; 3 2: 4", "1 2: 0; 3 4: 4; 4 3: 3; 0 0: 1; 0 0: 2", "0 3 4 3 2 1")
	// Another state's Out is met first, but 0's is 0.
	leaves(t, "1: 1; 0: 0", "1: 1; 0: 0", "0 1")
}

// Outs as large as may be: those alone that are the same number are the same (P1101).
func TestLargeOuts(t *testing.T) {
	for _, most := range []int{1, 255, 256, 99999, 1 << 31, 1 << 32, api.Inf, math.MaxInt} {
		b := api.Back{Next: [][]int{{1, 2}, {2, 1}, {1, 2}}, Out: []int{most, most - 1, most}}
		c, names := Back(b)
		if want := fmt.Sprintf("1 0: %d; 0 1: %d", most, most-1); tellBack(c) != want || row(names) != "0 1 0" {
			t.Errorf("P1101: of an Out of %d: %s, names %v, not %s", most, tellBack(c), names, want)
		}
	}
	b := api.Back{Next: [][]int{{1}, {2}, {0}}, Out: []int{0, 1 << 32, 1 << 56}}
	if c, _ := Back(b); tellBack(c) != tellBack(b) {
		t.Errorf("P1101: Back of %s: %s", tellBack(b), tellBack(c))
	}
}

// leavesFwd holds Fwd against what is known.
func leavesFwd(t *testing.T, machine, want, names string) {
	t.Helper()
	if g, got := Fwd(fwdOf(t, machine)); tellFwd(g) != want || row(got) != names {
		t.Errorf("P1101: Fwd of %s: %s, names %v; not %s, names %s", machine, tellFwd(g), got, want, names)
	}
}

// Emits of no Vecs are all the same (P1101).
func TestEmitsOfNoVecs(t *testing.T) {
	leavesFwd(t, "0 0:", "0 0: ", "0")
	leavesFwd(t, "1 2: ; 2 1: ; 0 0: ; 1 3: ", "0 0: ", "0 0 0 -1")
	leavesFwd(t, ": ; : ", ": ", "0 -1")
}

// Of several Vecs each number counts, and where it stands (P1101).
func TestEmitsOfSeveralVecs(t *testing.T) {
	leavesFwd(t, "1: 0 0 0; 0: 0 0 0", "0: 0 0 0", "0 0")
	for _, other := range []string{"1 0 0, 0 0 0", "0 1 0, 0 0 0", "0 0 1, 0 0 0", "0 0 0, 1 0 0", "0 0 0, 0 1 0", "0 0 0, 0 0 1", "- 0 0, 0 0 0", "0 0 0, 0 0 -"} {
		machine := "1: 0 0 0, 0 0 0; 0: " + other
		leavesFwd(t, machine, machine, "0 1")
		leavesFwd(t, "1: "+other+"; 0: "+other, "0: "+other, "0 0")
	}
	leavesFwd(t, "1 2: 1 2 3, 4 5 6; 2 0: 4 5 6, 1 2 3; 1 0: 1 2 3, 4 5 6", "1 0: 1 2 3, 4 5 6; 0 0: 4 5 6, 1 2 3", "0 1 0")
	leavesFwd(t, "1 2: - - -, 4 - 6; 1 2: - - -, 4 - 6; 1 2: - - -, 4 - 5", "0 1: - - -, 4 - 6; 0 1: - - -, 4 - 5", "0 0 1")
}

// Costs that differ in one bit alone are not the same (P1101).
func TestEmitsBitByBit(t *testing.T) {
	for bit := range 60 {
		for place := range 3 {
			f := fwdOf(t, "1: 0 0 0, 7 7 7; 0: 0 0 0, 7 7 7")
			if g, _ := Fwd(f); len(g.Next) != 1 {
				t.Fatalf("P1101: Fwd of %s: %s", tellFwd(f), tellFwd(g))
			}
			f.Emit[1][1][place] ^= 1 << bit
			if g, names := Fwd(f); tellFwd(g) != tellFwd(f) || row(names) != "0 1" {
				t.Errorf("P1101: Fwd of %s: %s", tellFwd(f), tellFwd(g))
			}
		}
	}
}

// Many Vecs: the last one counts, too (P1101).
func TestEmitsOfManyVecs(t *testing.T) {
	f := api.Fwd{Next: [][]int{{1}, {2}, {0}}}
	for range f.Next {
		f.Emit = append(f.Emit, make([]api.Vec, 100000))
	}
	if g, names := Fwd(f); len(g.Next) != 1 || len(g.Emit[0]) != 100000 || row(names) != "0 0 0" {
		t.Errorf("P1101: %d states, names %v", len(g.Next), names)
	}
	f.Emit[1][99999][2] = 1
	if g, names := Fwd(f); len(g.Next) != 3 || row(names) != "0 1 2" {
		t.Errorf("P1101: %d states, names %v", len(g.Next), names)
	}
}
