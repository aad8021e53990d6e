package twin

import (
	"fmt"
	"slices"
	"testing"

	"hyphen/api"
	"hyphen/part"
	"hyphen/side"
	"hyphen/syn"
)

// defs is the sets that patterns of these tests name: n has nothing, v both letters and another one.
const defs = "class a = 'a';class b = 'b';class v = 'a' | 'b' | 'e';class n = !any;"

// trimmed tells a pattern's positions, and of each Def of each letter whether it has it.
func trimmed(t *testing.T, pattern string) (api.Side, [][]bool) {
	t.Helper()
	f, at, e := syn.Parse(defs + "line 1 : " + pattern + " / ;")
	if e != api.OK {
		t.Fatalf("%s: %d: %v", pattern, at-len(defs), e)
	}
	sets := syn.Sets(f)
	cuts, letters := part.Cuts(sets)
	in := part.In(sets, cuts, letters)
	s, is := side.Make(f.Rules[0].Left, f)
	if !is {
		t.Fatalf("%s: no positions", pattern)
	}
	return side.Trim(s, in), in
}

// Patterns, as chapter 7 makes them to positions: which have a round that costs (P801).
func TestRoundOfPatterns(t *testing.T) {
	for pattern, want := range map[string]bool{
		"": false, "() @ 5": false, "a": false, "a*": false, "a @ 5": false, "a* @ 5": false, "b (a @ 5) b": false,
		"(a @ 5)*": true, "(a b @ 1)*": true, "(a @ 1 b)*": true, "(a | b @ 1)*": true, "(a @ 0)*": false,
		"(a* @ 5)*": false, "(a a* @ 5)*": true, "((a a*) @ 5)*": true, "a* (b @ 5) a*": false, "(a @ 1 | b @ 1) v*": false,
		"(a @ 1){2,5}": false, "((a @ 1){2,5})*": true, "(a{2,3} @ 1)*": true, "(a* b*)* @ 7": false,
		"(a* (b @ 1)*)*": true, "(a* (b* @ 1)*)*": true, "(() @ 5)*": false, "(a | () @ 5)*": false, "((a | () @ 5) b)*": true,
		"(a | n @ 1)*": false, "(a n @ 1)*": false, "n (a @ 1)*": false, "(a @ 1)* n": false, "(a @ 1)* | n": true,
		"(v (v @ 2)* v)*": true, "(v v* v)* (a @ 3)": false, ". .* (a @ 3) .*": false, "(. @ 3)*": true,
	} {
		s, _ := trimmed(t, pattern)
		if _, is := Round(s); is != want {
			t.Errorf("P801: Round of %s: %v", pattern, is)
		}
		checkRound(t, s, hasPaid(s))
		checkWays(t, s)
	}
}

// over tells the row behind a letter, of each position the least cost of a way to it.
func over(s api.Side, has func(at int) bool, row []int) []int {
	next := slices.Clone(s.First)
	for _, a := range s.Arcs {
		next[a.To] = min(next[a.To], row[a.From]+a.W)
	}
	for at := range next {
		if !has(at) {
			next[at] = api.Inf
		}
	}
	return next
}

// rows tells the rows of costs of all texts, the shorter ones' first; no more than most.
func rows(s api.Side, in [][]bool, most int) [][]int {
	l := [][]int{slices.Repeat([]int{api.Inf}, len(s.Sets))}
	seen := map[string]int{fmt.Sprint(l[0]): 1}
	for i := 0; i < len(l) && len(l) < most; i++ {
		for letter := range in[0] {
			row := over(s, func(at int) bool { return s.Sets[at] < 0 || in[s.Sets[at]][letter] }, l[i])
			k := fmt.Sprint(row)
			if seen[k] == 0 {
				l = append(l, row)
			}
			seen[k]++
		}
	}
	return l
}

// checkRows holds the rows of a side without a round that costs: all of them are met, and none costs more than a way that goes into no position twice.
func checkRows(t *testing.T, s api.Side, in [][]bool) {
	t.Helper()
	const most = 20000
	l := rows(s, in, most)
	if len(l) >= most {
		t.Fatalf("P802: of %v, %v: %d rows and more", s.First, s.Arcs, len(l))
	}
	bound := 0
	for _, cost := range s.First {
		if cost < api.Inf {
			bound = max(bound, cost)
		}
	}
	for _, a := range s.Arcs {
		bound += a.W
	}
	for _, row := range l {
		for _, cost := range row {
			if cost > bound && cost < api.Inf {
				t.Fatalf("P802: of %v, %v: a row costs %d", s.First, s.Arcs, cost)
			}
		}
	}
}

// Patterns without a round that costs: finitely many rows (P802).
func TestRowsOfPatterns(t *testing.T) {
	for _, pattern := range []string{"", "a", "a*", "a @ 5", "a* @ 5", "(a @ 1){2,5}", "(a* b*)* (a @ 7)", "a* (b @ 3) a* (b @ 4) v*", "(a | n @ 1)*", "(v @ 9 | a b | . @ 2){1,4} b*", "(a (b | a b)*){0,2} (v @ 3 | b @ 1) (a* b)*"} {
		s, in := trimmed(t, pattern)
		checkRound(t, s, false)
		checkRows(t, s, in)
	}
	_, in := trimmed(t, "")
	d := &dice{61}
	held, weighed := 0, 0
	for range 3000 {
		s := d.side(6)
		for at := range s.Sets {
			s.Sets[at] = pick(d, -1, 0, 1, 2)
		}
		if _, is := Round(s); !is {
			checkRows(t, s, in)
			held++
			if slices.ContainsFunc(s.Arcs, func(a api.Arc) bool { return a.W > 0 }) {
				weighed++
			}
		}
	}
	if held < 1000 || weighed < 300 {
		t.Errorf("P802: only %d sides were held, %d of them with arcs that cost", held, weighed)
	}
}

// With one there may be rows without end: what Round is asked for (P801, P802).
func TestRowsWithoutEnd(t *testing.T) {
	for _, pattern := range []string{"a (b @ 1)*", "a (b b @ 1)* @ 4", "a (b{1,2} @ 2)*"} {
		s, in := trimmed(t, pattern)
		checkRound(t, s, true)
		if l := rows(s, in, 3000); len(l) < 3000 {
			t.Errorf("%s: %d rows", pattern, len(l))
		}
	}
}
