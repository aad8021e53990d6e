package side

import (
	"fmt"
	"testing"

	"hyphen/api"
	"hyphen/syn"
)

// trace is one match by positions: gaps[i] is what is paid ahead of at[i], the last gap what is paid behind all.
type trace struct{ at, gaps []int }

// then is a, and b behind it.
func (a trace) then(b trace) trace {
	n := len(a.gaps) - 1
	c := trace{append(append([]int{}, a.at...), b.at...), append(append([]int{}, a.gaps[:n]...), b.gaps...)}
	c.gaps[n] = a.gaps[n] + b.gaps[0]
	return c
}

// tracer tells matches by the words of W4 alone; too many of them are not told.
type tracer struct {
	f    api.File
	sets []int
}

// mostTraces is how many are told at most, tooMany what is said of more.
const (
	mostTraces = 4000
	tooMany    = "too many"
)

// once drops those of l that are there more than once; nothing of too many.
func once(l []trace) []trace {
	seen := map[string]int{}
	var rest []trace
	for _, a := range l {
		k := fmt.Sprint(a)
		if seen[k] == 0 {
			rest = append(rest, a)
		}
		seen[k]++
	}
	if len(rest) > mostTraces {
		panic(tooMany)
	}
	return rest
}

// pairs is each of a, with each of b behind it.
func pairs(a, b []trace) []trace {
	if len(a)*len(b) > 20*mostTraces {
		panic(tooMany)
	}
	var l []trace
	for _, x := range a {
		for _, y := range b {
			l = append(l, x.then(y))
		}
	}
	return once(l)
}

// still is the match of nothing.
func still() []trace { return []trace{{gaps: []int{0}}} }

// of tells x's matches, its stars of up to three rounds: more bring nothing that is next to nothing else.
func (t *tracer) of(x api.Rex) []trace {
	switch x.Kind {
	case api.RNone:
		return still()
	case api.RSet, api.RAny:
		set := -1
		for i, d := range t.f.Defs {
			if x.Kind == api.RSet && d.Name == x.Name {
				set = i
			}
		}
		t.sets = append(t.sets, set)
		return []trace{{[]int{len(t.sets) - 1}, []int{0, 0}}}
	case api.RCat:
		a := t.of(x.L[0])
		return pairs(a, t.of(x.L[1]))
	case api.RAlt:
		a := t.of(x.L[0])
		return once(append(a, t.of(x.L[1])...))
	case api.RStar:
		a, all := t.of(x.L[0]), still()
		for range 3 {
			all = once(append(all, pairs(all, a)...))
		}
		return all
	case api.RTimes:
		var all []trace
		row := still()
		for k := range x.Hi + 1 {
			if k >= x.Lo {
				all = append(all, row...)
			}
			if k < x.Hi {
				row = pairs(row, t.of(x.L[0]))
			}
		}
		return once(all)
	}
	var all []trace
	for _, a := range t.of(x.L[0]) {
		all = append(all, trace{gaps: []int{x.W}}.then(a))
	}
	return all
}

// side tells, of all traces, of each First, Ends, Arc, and None the least.
func (t *tracer) side(all []trace) api.Side {
	size := len(t.sets)
	s := api.Side{Sets: t.sets, First: forbidden(size), Ends: forbidden(size), None: api.Inf}
	arcs := map[[2]int]int{}
	for _, a := range all {
		n := len(a.at)
		if n == 0 {
			s.None = min(s.None, a.gaps[0])
			continue
		}
		s.First[a.at[0]] = min(s.First[a.at[0]], a.gaps[0])
		s.Ends[a.at[n-1]] = min(s.Ends[a.at[n-1]], a.gaps[n])
		for i := range n - 1 {
			k := [2]int{a.at[i], a.at[i+1]}
			if w, is := arcs[k]; !is || a.gaps[i+1] < w {
				arcs[k] = a.gaps[i+1]
			}
		}
	}
	for from := range size {
		for to := range size {
			if w, is := arcs[[2]int{from, to}]; is {
				s.Arcs = append(s.Arcs, api.Arc{From: from, To: to, W: w})
			}
		}
	}
	return s
}

// traced tells what Make should of x; false, if x has too many matches to tell.
func traced(x api.Rex, f api.File) (s api.Side, is bool) {
	defer func() {
		if e := recover(); e == tooMany {
			is = false
		} else if e != nil {
			panic(e)
		}
	}()
	t := tracer{f: f}
	all := t.of(x)
	return t.side(all), true
}

// checkTraces holds Make against all matches of x.
func checkTraces(t *testing.T, x api.Rex, f api.File) bool {
	t.Helper()
	want, is := traced(x, f)
	if is && said(made(t, x, f)) != said(want) {
		t.Fatalf("P701: Make of %s:\n%s, not\n%s", syn.Rex(x), said(made(t, x, f)), said(want))
	}
	return is
}

// Small patterns, all of them, and thrown ones: as all their matches say (P701).
func TestMakeByMatches(t *testing.T) {
	_, f := left(t, "")
	for _, x := range fewPatterns(2) {
		checkTraces(t, x, f)
	}
	d := &dice{17}
	held := 0
	for range 3000 {
		if checkTraces(t, d.made(2+d.of(3), 3), f) {
			held++
		}
	}
	if held < 2000 {
		t.Errorf("only %d patterns were held", held)
	}
}

// Arcs rise by From, then To, each once, none of them Inf; there are as many of each list as Size tells (P701).
func TestArcsRise(t *testing.T) {
	_, f := left(t, "")
	d := &dice{19}
	for range 1500 {
		x := d.made(5, 6)
		s := made(t, x, f)
		if n := Size(x); len(s.Sets) != n || len(s.First) != n || len(s.Ends) != n {
			t.Fatalf("P701: of %s, of size %d: %s", syn.Rex(x), n, said(s))
		}
		for i, a := range s.Arcs {
			if a.W < 0 || a.W >= api.Inf || i > 0 && (s.Arcs[i-1].From > a.From || s.Arcs[i-1].From == a.From && s.Arcs[i-1].To >= a.To) {
				t.Fatalf("P701: Arcs of %s: %v", syn.Rex(x), s.Arcs)
			}
		}
	}
}
