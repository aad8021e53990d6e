package twin

import (
	"fmt"
	"slices"
	"strconv"
	"strings"
	"testing"

	"hyphen/api"
)

// positions reads a side: of each position its First ("0 - 3": - for Inf), and arcs ("0>1:5").
func positions(t *testing.T, first, arcs string) api.Side {
	t.Helper()
	number := func(word string) int {
		if word == "-" {
			return api.Inf
		}
		n, err := strconv.Atoi(word)
		if err != nil {
			t.Fatal(err)
		}
		return n
	}
	s := api.Side{None: api.Inf}
	for _, word := range strings.Fields(first) {
		s.First = append(s.First, number(word))
		s.Sets, s.Ends = append(s.Sets, -1), append(s.Ends, 0)
	}
	for _, word := range strings.Fields(arcs) {
		from, rest, _ := strings.Cut(word, ">")
		to, w, _ := strings.Cut(rest, ":")
		s.Arcs = append(s.Arcs, api.Arc{From: number(from), To: number(to), W: number(w)})
	}
	return s
}

// each makes so many positions, all with a First, and an arc from each to each that w does not say to be Inf.
func each(size int, w func(from, to int) int) api.Side {
	s := api.Side{None: api.Inf, Sets: make([]int, size), First: make([]int, size), Ends: make([]int, size)}
	for from := range size {
		for to := range size {
			if n := w(from, to); n < api.Inf {
				s.Arcs = append(s.Arcs, api.Arc{From: from, To: to, W: n})
			}
		}
	}
	return s
}

// arcs tells what those of s cost, by their ends.
func arcs(s api.Side) map[[2]int]int {
	m := map[[2]int]int{}
	for _, a := range s.Arcs {
		m[[2]int{a.From, a.To}] = a.W
	}
	return m
}

// around tells by the words of P801 alone what going round l costs.
func around(s api.Side, l []int) (int, bool) {
	m, sum := arcs(s), 0
	for i, at := range l {
		w, is := m[[2]int{at, l[(i+1)%len(l)]}]
		if !is {
			return 0, false
		}
		sum += w
	}
	return sum, len(l) > 0
}

// isOnce tells whether nothing is twice in l.
func isOnce(l []int) bool {
	seen := slices.Clone(l)
	slices.Sort(seen)
	return len(slices.Compact(seen)) == len(l)
}

// checkRound holds what Round tells: is it is to be; a round, by the words and by Check, that costs, each position once; else nothing.
func checkRound(t *testing.T, s api.Side, want bool) []int {
	t.Helper()
	l, is := Round(s)
	if is != want {
		t.Fatalf("P801: Round of %v, %v: %v, %v", s.First, s.Arcs, l, is)
	}
	if !is {
		if len(l) > 0 {
			t.Fatalf("P4: Round of %v: %v beside false", s.Arcs, l)
		}
		return nil
	}
	n, may := around(s, l)
	if !may || n <= 0 || !isOnce(l) {
		t.Fatalf("P801: Round of %v: %v: %d, %v", s.Arcs, l, n, may)
	}
	if m, may := Check(s, l); m != n || !may {
		t.Fatalf("P801: Check of Round's %v: %d, %v, not %d", l, m, may, n)
	}
	return l
}

// far tells of each two positions whether a way of one arc or more leads from the one to the other.
func far(s api.Side) [][]bool {
	is := make([][]bool, len(s.Sets))
	for at := range is {
		is[at] = make([]bool, len(is))
	}
	for _, a := range s.Arcs {
		is[a.From][a.To] = true
	}
	for by := range is {
		for from := range is {
			for to := range is {
				is[from][to] = is[from][to] || is[from][by] && is[by][to]
			}
		}
	}
	return is
}

// hasPaid tells whether an arc that costs is in a round: then there is a round that costs.
func hasPaid(s api.Side) bool {
	is := far(s)
	return slices.ContainsFunc(s.Arcs, func(a api.Arc) bool { return a.W > 0 && (a.From == a.To || is[a.To][a.From]) })
}

// hasRound tells it by all rounds in which no position is twice, one by one: those that begin with l.
func hasRound(s api.Side, l []int) bool {
	if n, is := around(s, l); is && n > 0 {
		return true
	}
	for at := range s.Sets {
		is := len(l) == 0
		if !is {
			_, is = arcs(s)[[2]int{l[len(l)-1], at}]
		}
		if is && !slices.Contains(l, at) && hasRound(s, append(slices.Clone(l), at)) {
			return true
		}
	}
	return false
}

// fewest tells of each position how many a shortest way has to it; 0: there is none.
func fewest(s api.Side) []int {
	n := make([]int, len(s.Sets))
	for at, cost := range s.First {
		if cost < api.Inf {
			n[at] = 1
		}
	}
	for step := 1; step <= len(n); step++ {
		for _, a := range s.Arcs {
			if n[a.From] == step && n[a.To] == 0 {
				n[a.To] = step + 1
			}
		}
	}
	return n
}

// checkWays holds what Way tells of each position, and of what is none: it begins at a First, goes by arcs, ends there, and no shorter one is.
func checkWays(t *testing.T, s api.Side) {
	t.Helper()
	m := arcs(s)
	for to, want := range fewest(s) {
		l, is := Way(s, to)
		if is != (want > 0) || len(l) != want {
			t.Fatalf("P801: Way of %v, %v to %d: %v, %v, not of %d", s.First, s.Arcs, to, l, is, want)
		}
		if is && (s.First[l[0]] >= api.Inf || l[len(l)-1] != to) {
			t.Fatalf("P801: Way of %v, %v to %d: %v", s.First, s.Arcs, to, l)
		}
		for i := 1; i < len(l); i++ {
			if _, is := m[[2]int{l[i-1], l[i]}]; !is {
				t.Fatalf("P801: Way of %v, %v to %d: %v", s.First, s.Arcs, to, l)
			}
		}
	}
	for _, to := range []int{-1, len(s.Sets)} {
		checkWay(t, s, to, "[] false")
	}
}

// checkWay holds Way against what is known.
func checkWay(t *testing.T, s api.Side, to int, want string) {
	t.Helper()
	l, is := Way(s, to)
	if got := fmt.Sprint(l, is); got != want {
		t.Errorf("P801: Way of %v, %.300v to %d: %s, not %s", s.First, s.Arcs, to, got, want)
	}
}

// dice throws.
type dice struct{ n uint64 }

func (d *dice) of(k int) int {
	d.n = d.n*6364136223846793005 + 1442695040888963407
	return int(d.n>>33) % k
}

// pick throws for one of l.
func pick[T any](d *dice, l ...T) T {
	return l[d.of(len(l))]
}

// side throws one of up to most positions: one of so many in the row of arcs is there, one of so many costs.
func (d *dice) side(most int) api.Side {
	rare, dear := 1+d.of(most+2), 1+d.of(8)
	s := each(d.of(most+1), func(from, to int) int {
		if d.of(rare) > 0 {
			return api.Inf
		}
		if d.of(dear) > 0 {
			return 0
		}
		return pick(d, 0, 1, 1, 5, api.MaxW, api.Inf/200)
	})
	for at := range s.First {
		s.First[at], s.Ends[at] = pick(d, 0, 3, api.Inf, api.Inf, api.Inf), pick(d, 0, 3, api.Inf)
		s.Sets[at] = d.of(13) - 1
	}
	return s
}

// row throws positions, or what is none now and then.
func (d *dice) row(size int) []int {
	var l []int
	for range d.of(6) {
		l = append(l, pick(d, d.of(size+1), d.of(size+1), d.of(size+1), d.of(size+2)-1))
	}
	return l
}
