package twin

import (
	"fmt"
	"math"
	"slices"
	"testing"

	"hyphen/api"
)

// roomy is l with spare room behind, full of v.
func roomy[T any](l []T, v T) []T {
	return append(slices.Clone(l), v, v, v)[:len(l)]
}

// full is l with all its spare room.
func full[T any](l []T) []T {
	return l[:cap(l)]
}

// roomySide is s so: what stands there would make rounds and ways.
func roomySide(s api.Side) api.Side {
	s.Sets, s.First, s.Ends = roomy(s.Sets, -1), roomy(s.First, 0), roomy(s.Ends, 0)
	s.Arcs = roomy(s.Arcs, api.Arc{W: 9})
	return s
}

// told tells all that may be handed in, with all spare room.
func told(s api.Side, l []int) string {
	return fmt.Sprint(full(s.Sets), len(s.Sets), full(s.First), len(s.First), full(s.Ends), len(s.Ends), full(s.Arcs), len(s.Arcs), s.None, full(l), len(l))
}

// answers tells what is said of s, and of l.
func answers(s api.Side, l []int) string {
	round, is := Round(s)
	n, may := Check(s, l)
	said := fmt.Sprint(round, is, n, may)
	for to := -1; to <= len(s.Sets); to++ {
		way, is := Way(s, to)
		said += fmt.Sprint(way, is)
	}
	return said
}

// What is handed in, its spare room too, stays as it was, and is not read further than it goes (P2).
func TestHandedInStays(t *testing.T) {
	d := &dice{47}
	for range 3000 {
		s := d.side(7)
		l := d.row(len(s.Sets))
		z, k := roomySide(s), roomy(l, 0)
		was := told(z, k)
		if got, want := answers(z, k), answers(s, l); got != want {
			t.Fatalf("P2: of spare room %s, not %s", got, want)
		}
		if now := told(z, k); now != was {
			t.Fatalf("P2: %s left %s", was, now)
		}
	}
}

// An answer is the asker's own, its spare room too: whatever becomes of it, or of what was handed in (P2).
func TestAnswersAreNew(t *testing.T) {
	d := &dice{53}
	for range 2000 {
		s := d.side(6)
		z := roomySide(s)
		was := told(z, nil)
		var lists, others [][]int
		var kept []string
		ask := func() (lists [][]int) {
			l, _ := Round(z)
			lists = append(lists, l)
			for to := range z.Sets {
				l, _ := Way(z, to)
				lists = append(lists, l)
			}
			return lists
		}
		lists, others = ask(), ask()
		for _, l := range others {
			kept = append(kept, fmt.Sprint(l))
		}
		for _, l := range lists {
			for i := range full(l) {
				full(l)[i] = -7
			}
		}
		if now := told(z, nil); now != was {
			t.Fatalf("P2: an answer shares memory with what was handed in: %s left %s", was, now)
		}
		for i := range z.Arcs {
			z.Arcs[i] = api.Arc{From: -7, To: -7, W: -7}
		}
		for i := range z.Sets {
			z.Sets[i], z.First[i], z.Ends[i] = -7, -7, -7
		}
		for i, l := range others {
			if fmt.Sprint(l) != kept[i] {
				t.Fatalf("P2: an answer was %s, and is %v", kept[i], l)
			}
		}
	}
}

// The same calls answer the same, whatever was asked between (P3).
func TestTheSameAgain(t *testing.T) {
	d := &dice{59}
	var asked []func() string
	var first []string
	for range 500 {
		s := d.side(9)
		l := d.row(len(s.Sets))
		ask := func() string { return answers(s, l) }
		asked, first = append(asked, ask), append(first, ask())
	}
	for i, ask := range slices.Backward(asked) {
		if got := ask(); got != first[i] {
			t.Errorf("P3: %s, then %s", first[i], got)
		}
	}
}

// No list and an empty one are the same (P2).
func TestNoListAndEmptyOne(t *testing.T) {
	e := api.Side{Sets: []int{}, First: []int{}, Ends: []int{}, Arcs: []api.Arc{}}
	if a, b := answers(e, []int{}), answers(api.Side{}, nil); a != b || a != "[] false 0 false[] false[] false" {
		t.Errorf("P2: of empty lists %s, of none %s", a, b)
	}
	s := positions(t, "0 -", "")
	s.Arcs = []api.Arc{}
	if a, b := answers(s, []int{}), answers(positions(t, "0 -", ""), nil); a != b {
		t.Errorf("P2: of empty lists %s, of none %s", a, b)
	}
}

// Of what may not be handed in nothing is promised but an end, and that it stays as it was (P1, P2, P8).
func TestHandedInWhereItMayNotBe(t *testing.T) {
	wild := []int{math.MinInt, -2, -1, 0, 1, 2, 8, 9, api.Inf - 1, api.Inf, math.MaxInt}
	var arcs []api.Arc
	for _, from := range wild {
		for _, to := range wild {
			for _, w := range wild {
				arcs = append(arcs, api.Arc{From: from, To: to, W: w})
			}
		}
	}
	turned := slices.Clone(arcs)
	slices.Reverse(turned)
	sides := []api.Side{{Arcs: arcs}, {Sets: wild, Arcs: arcs}, {First: wild, Arcs: arcs}, {Ends: wild, Arcs: arcs}}
	for _, k := range []int{0, 1, 3, len(wild)} {
		for _, arcs := range [][]api.Arc{nil, arcs, turned} {
			sides = append(sides, api.Side{Sets: wild[:k], First: wild, Ends: wild, Arcs: arcs, None: -1}, api.Side{Sets: wild, First: wild[:k], Ends: wild, Arcs: arcs}, api.Side{Sets: wild, First: wild, Ends: wild[:k], Arcs: arcs})
		}
	}
	for _, s := range sides {
		for _, l := range [][]int{nil, wild, {0}, {0, 1}, {1, 2, 8}, slices.Repeat([]int{1}, 5000)} {
			was := told(s, l)
			answers(s, l)
			for _, to := range wild {
				Way(s, to)
			}
			if now := told(s, l); now != was {
				t.Fatalf("P2: %s left %s", was, now)
			}
		}
	}
}

// Several arcs between the same two count as the least of them, in whatever order they stand.
func TestArcsThatAreTwice(t *testing.T) {
	s := positions(t, "0 0", "0>0:0 0>0:5 0>1:3 0>1:1 1>0:0 1>0:0")
	checks(t, s, 0, 0)
	checks(t, s, 1, 0, 1)
	if l, is := Round(s); !is || len(l) != 2 {
		t.Errorf("P801: Round of arcs that are twice: %v, %v", l, is)
	}
	s = positions(t, "0 0", "0>1:4 0>1:0 1>0:0 1>0:2")
	if l, is := Round(s); is {
		t.Errorf("P801: Round of arcs that are twice: %v", l)
	}
	// Told in no order.
	s = positions(t, "0 - -", "2>0:0 1>2:7 0>2:0 0>1:0 2>1:0 1>0:0")
	checks(t, s, 7, 1, 2)
	checks(t, s, 0, 0, 1)
	checkRound(t, s, true)
	checkWays(t, s)
}
