package side

import (
	"testing"

	"hyphen/api"
	"hyphen/mean"
	"hyphen/syn"
)

// plain tells by the words of W4 alone what a pattern costs: of each two places the least of a match from the one to the other.
type plain struct {
	f    api.File
	text []int
}

// grid is costs by from and to.
type grid [][]int

func (p plain) empty() grid {
	var g grid
	for range len(p.text) + 1 {
		g = append(g, forbidden(len(p.text)+1))
	}
	return g
}

// still is what matches no scalar, for nothing.
func (p plain) still() grid {
	g := p.empty()
	for i := range g {
		g[i][i] = 0
	}
	return g
}

// then is a, then b.
func (p plain) then(a, b grid) grid {
	g := p.empty()
	for i := range g {
		for m := i; m < len(g); m++ {
			for k := m; k < len(g); k++ {
				g[i][k] = min(g[i][k], a[i][m]+b[m][k])
			}
		}
	}
	return g
}

// or is a or b.
func (p plain) or(a, b grid) grid {
	g := p.empty()
	for i := range g {
		for k := range g {
			g[i][k] = min(a[i][k], b[i][k])
		}
	}
	return g
}

// rounds is from lo to hi of a, one behind the other.
func (p plain) rounds(a grid, lo, hi int) grid {
	g, round := p.empty(), p.still()
	for k := range hi + 1 {
		if k >= lo {
			g = p.or(g, round)
		}
		round = p.then(round, a)
	}
	return g
}

// scalar is one scalar that is meant.
func (p plain) scalar(meant func(n int) bool) grid {
	g := p.empty()
	for i, n := range p.text {
		if meant(n) {
			g[i][i+1] = 0
		}
	}
	return g
}

// named tells whether n is in the set of that name.
func (p plain) named(name string, n int) bool {
	for i, d := range p.f.Defs {
		if d.Name != name {
			continue
		}
		for _, r := range syn.Sets(p.f)[i] {
			if r.Lo <= n && n <= r.Hi {
				return true
			}
		}
	}
	return false
}

// matches tells all that x matches.
func (p plain) matches(x api.Rex) grid {
	switch x.Kind {
	case api.RNone:
		return p.still()
	case api.RSet:
		return p.scalar(func(n int) bool { return p.named(x.Name, n) })
	case api.RAny:
		return p.scalar(func(int) bool { return true })
	case api.RCat:
		return p.then(p.matches(x.L[0]), p.matches(x.L[1]))
	case api.RAlt:
		return p.or(p.matches(x.L[0]), p.matches(x.L[1]))
	case api.RStar:
		// More rounds than scalars add only such as match none: they make nothing cheaper.
		return p.rounds(p.matches(x.L[0]), 0, len(p.text)+1)
	case api.RTimes:
		return p.rounds(p.matches(x.L[0]), x.Lo, x.Hi)
	}
	g := p.matches(x.L[0])
	for i := range g {
		for k := range g {
			g[i][k] += x.W
		}
	}
	return g
}

// checkCosts holds Cost of x's positions, trimmed and not, against plain, from each place to each later one.
func checkCosts(t *testing.T, x api.Rex, f api.File, text []int) {
	t.Helper()
	want := plain{f, text}.matches(x)
	s := made(t, x, f)
	z := Trim(s, rows(f))
	for from := range want {
		for to := from; to < len(want); to++ {
			n := min(want[from][to], api.Inf)
			if got := Cost(s, f, text, from, to); got != n {
				t.Fatalf("P702: Cost of %s over %v from %d to %d: %d, not %d", syn.Rex(x), text, from, to, got, n)
			}
			if got := Cost(z, f, text, from, to); got != n {
				t.Fatalf("P702: Cost of %s, trimmed, over %v from %d to %d: %d, not %d", syn.Rex(x), text, from, to, got, n)
			}
		}
	}
}

// marked tells by chapter 6 what a match of x from from to to costs: over text up to there, with a mark set in at from, behind which it must begin.
func marked(x api.Rex, f api.File, text []int, from, to int) int {
	var l []int
	l = append(l, text[:from]...)
	l = append(l, 1)
	l = append(l, text[from:to]...)
	return mean.Cost(cat(set("m"), x), f, l, to+1)
}

// checkMean holds Cost of x's positions against chapter 6: from each place to each later one, and from any to each.
func checkMean(t *testing.T, x api.Rex, f api.File, text []int) {
	t.Helper()
	s := made(t, x, f)
	ends := map[[2]int]bool{}
	for to := range len(text) + 1 {
		least := api.Inf
		for from := range to + 1 {
			got := Cost(s, f, text, from, to)
			if want := marked(x, f, text, from, to); got != want {
				t.Fatalf("P703: %s over %v from %d to %d: %d, not %d", syn.Rex(x), text, from, to, got, want)
			}
			least = min(least, got)
			ends[[2]int{from, to}] = got < api.Inf
		}
		if want := mean.Cost(x, f, text, to); least != want {
			t.Fatalf("P703: %s over %v to %d: %d, not %d", syn.Rex(x), text, to, least, want)
		}
	}
	for from := range len(text) + 1 {
		count := 0
		for _, to := range mean.Ends(x, f, text, from) {
			count++
			if !ends[[2]int{from, to}] {
				t.Fatalf("P703: %s over %v from %d to %d: Inf", syn.Rex(x), text, from, to)
			}
		}
		for to := from; to <= len(text); to++ {
			if ends[[2]int{from, to}] {
				count--
			}
		}
		if count != 0 {
			t.Fatalf("P703: %s over %v from %d: %d more Ends", syn.Rex(x), text, from, count)
		}
	}
}

// Small patterns, all of them, and thrown ones: as W4 says (P702), and chapter 6 (P703, T1).
func TestCostByMatches(t *testing.T) {
	_, f := left(t, "")
	for _, x := range fewPatterns(2) {
		for _, s := range []string{"", "ab", "aab"} {
			checkCosts(t, x, f, scalars(s))
		}
		checkMean(t, x, f, scalars("aba"))
	}
	d := &dice{5}
	for range 3000 {
		checkCosts(t, d.made(1+d.of(6), 3), f, d.text(6))
		checkMean(t, d.made(1+d.of(6), 3), f, d.text(5))
	}
}

// So where repeats are great, and within one another (P702, P703).
func TestCostOfThrownRepeats(t *testing.T) {
	_, f := left(t, "")
	d := &dice{7}
	for range 1000 {
		x := d.made(2, 12)
		for range d.of(4) {
			lo := d.of(4)
			y := repeat(pick(d, x, cat(x, set("a")), alt(x, cost(none(), d.of(5))), cost(x, d.of(3)), many0(x)), lo, lo+d.of(9))
			if Size(y) <= api.MaxPos {
				x = y
			}
		}
		checkCosts(t, x, f, d.text(8))
		checkMean(t, x, f, d.text(8))
	}
}
