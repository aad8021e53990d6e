package mean

import (
	"testing"

	"hyphen/api"
	"hyphen/syn"
)

// plain tells by the words of W4 alone what a pattern matches: of each two places the least cost of a match from the one to the other.
type plain struct {
	f      api.File
	text   []int
	weighs bool
}

// grid is costs by from and to; Inf and more: -1.
type grid [][]int

func (p plain) empty() grid {
	g := make(grid, len(p.text)+1)
	for i := range g {
		g[i] = make([]int, len(p.text)+1)
		for k := range g[i] {
			g[i][k] = -1
		}
	}
	return g
}

// put lets n count where it is the least.
func (g grid) put(from, to, n int) {
	if n < api.Inf && (g[from][to] < 0 || n < g[from][to]) {
		g[from][to] = n
	}
}

// still is what matches no scalar, for nothing.
func (p plain) still() grid {
	g := p.empty()
	for i := range g {
		g.put(i, i, 0)
	}
	return g
}

// then is a, then b.
func (p plain) then(a, b grid) grid {
	g := p.empty()
	for i := range g {
		for m := range g {
			for k := range g {
				if a[i][m] >= 0 && b[m][k] >= 0 {
					g.put(i, k, a[i][m]+b[m][k])
				}
			}
		}
	}
	return g
}

// or is a or b.
func (p plain) or(a, b grid) grid {
	g := p.empty()
	for i := range g {
		for k := range g {
			for _, h := range []grid{a, b} {
				if h[i][k] >= 0 {
					g.put(i, k, h[i][k])
				}
			}
		}
	}
	return g
}

// rounds is from lo to hi of a, one behind the other.
func (p plain) rounds(a grid, lo, hi int) grid {
	g, round := p.empty(), p.still()
	for k := range hi + 1 {
		if k >= lo {
			g = p.or(g, round)
		}
		round = p.then(round, a)
	}
	return g
}

// scalar is one scalar that is meant.
func (p plain) scalar(meant func(n int) bool) grid {
	g := p.empty()
	for i, n := range p.text {
		if meant(n) {
			g.put(i, i+1, 0)
		}
	}
	return g
}

// named tells whether n is in the set of that name.
func (p plain) named(name string, n int) bool {
	for i, d := range p.f.Defs {
		if d.Name != name {
			continue
		}
		for _, r := range syn.Sets(p.f)[i] {
			if r.Lo <= n && n <= r.Hi {
				return true
			}
		}
	}
	return false
}

// matches tells all that x matches.
func (p plain) matches(x api.Rex) grid {
	switch x.Kind {
	case api.RNone:
		return p.still()
	case api.RSet:
		return p.scalar(func(n int) bool { return p.named(x.Name, n) })
	case api.RAny:
		return p.scalar(func(int) bool { return true })
	case api.RCat:
		return p.then(p.matches(x.L[0]), p.matches(x.L[1]))
	case api.RAlt:
		return p.or(p.matches(x.L[0]), p.matches(x.L[1]))
	case api.RStar:
		// More rounds than scalars add only such as match none: they make nothing cheaper.
		return p.rounds(p.matches(x.L[0]), 0, len(p.text)+1)
	case api.RTimes:
		return p.rounds(p.matches(x.L[0]), x.Lo, x.Hi)
	}
	g := p.matches(x.L[0])
	if p.weighs {
		w := p.empty()
		for i := range g {
			for k := range g {
				if g[i][k] >= 0 {
					w.put(i, k, g[i][k]+x.W)
				}
			}
		}
		return w
	}
	return g
}

// column tells the least of g to a place.
func (g grid) column(to int) int {
	least := api.Inf
	for from := range g {
		if g[from][to] >= 0 {
			least = min(least, g[from][to])
		}
	}
	return least
}

// checkRex holds Ends and Cost of x against plain, at each place.
func checkRex(t *testing.T, x api.Rex, f api.File, text []int) {
	t.Helper()
	bare, full := plain{f, text, false}.matches(x), plain{f, text, true}.matches(x)
	for at := range len(text) + 1 {
		var want []int
		for to, n := range bare[at] {
			if n >= 0 {
				want = append(want, to)
			}
		}
		if got := Ends(x, f, text, at); !rising(got) || !equal(got, want) {
			t.Fatalf("P601: Ends of %s over %v from %d: %v, not %v", syn.Rex(x), text, at, got, want)
		}
		if got := Cost(x, f, text, at); got != full.column(at) {
			t.Fatalf("P601: Cost of %s over %v to %d: %d, not %d", syn.Rex(x), text, at, got, full.column(at))
		}
	}
}

// equal tells whether both are the same; nil and an empty one are.
func equal(a, b []int) bool {
	if len(a) != len(b) {
		return false
	}
	for i := range a {
		if a[i] != b[i] {
			return false
		}
	}
	return true
}

// checkFile holds Breaks of f against plain.
func checkFile(t *testing.T, f api.File, text []int) {
	t.Helper()
	want := make([]api.Vec, len(text)+1)
	for i := range want {
		want[i] = api.Vec{api.Inf, api.Inf, api.Inf}
	}
	for _, r := range f.Rules {
		lefts, rights := plain{f, text, true}.matches(r.Left), plain{f, text, false}.matches(r.Right)
		for i := range want {
			for _, n := range rights[i] {
				if n >= 0 {
					want[i][r.Cat] = min(want[i][r.Cat], lefts.column(i)+r.Cost)
				}
			}
		}
	}
	if got := Breaks(f, text); said(got) != said(want) {
		t.Fatalf("P602: Breaks of %s over %v: %s, not %s", syn.Text(f), text, said(got), said(want))
	}
}

// Patterns and rules of any make tell what W4 says.
func TestThrown(t *testing.T) {
	d := &dice{5}
	f := file(t, "")
	for range 4000 {
		checkRex(t, d.rex(1+d.of(6), 3, true), f, d.text(6))
	}
	for range 1500 {
		checkFile(t, d.rules(t, 4, 3), d.text(6))
	}
}

// So where repeats are great, and within one another.
func TestThrownRepeats(t *testing.T) {
	d := &dice{7}
	f := file(t, "")
	for range 1500 {
		x := d.rex(3, 12, true)
		for range d.of(5) {
			lo := d.of(4)
			x = repeat(pick(d, x, cat(x, set("a")), alt(x, cost(none(), d.of(5))), cost(x, d.of(3)), many0(x)), lo, lo+d.of(9))
		}
		checkRex(t, x, f, d.text(5))
	}
	for range 60 {
		x := repeat(repeat(repeat(d.rex(2, 12, true), 2, 12), 0, 3), d.of(3), 12)
		checkRex(t, x, f, append(d.text(6), scalars("abaabbaabab")...))
		checkFile(t, api.File{Defs: f.Defs, Rules: []api.Rule{{Cat: 1, Cost: 3, Left: x, Right: repeat(cat(d.rex(2, 12, false), set("b")), 1, 12)}}}, append(d.text(6), scalars("abaabbaabab")...))
	}
}

// fewPatterns tells all patterns of depth deep, of few leaves.
func fewPatterns(deep int) []api.Rex {
	l := []api.Rex{none(), set("a"), dot()}
	if deep == 0 {
		return l
	}
	for _, x := range fewPatterns(deep - 1) {
		l = append(l, many0(x), repeat(x, 0, 2), repeat(x, 2, 3), repeat(x, 0, 0), cost(x, 5))
		for _, y := range fewPatterns(deep - 1) {
			l = append(l, cat(x, y), alt(x, y))
		}
	}
	return l
}

// Small patterns, all of them.
func TestSmall(t *testing.T) {
	f := file(t, "")
	for _, x := range fewPatterns(2) {
		for _, s := range []string{"", "ab", "aab"} {
			checkRex(t, x, f, scalars(s))
		}
	}
}
