package comp

import (
	"fmt"
	"slices"
	"strings"
	"testing"

	"hyphen/api"
	"hyphen/back"
	"hyphen/det"
	"hyphen/mean"
	"hyphen/part"
	"hyphen/side"
	"hyphen/syn"
	"hyphen/twin"
)

// defs is the sets that patterns of these tests name: o has nothing.
const defs = "class a = 'a';class b = 'b';class v = 'a' | 'e';class o = any - any;"

// most is a budget that no machine of these tests needs.
const most = 50000

// ok holds that src is made to a table (P1401, P4).
func ok(t *testing.T, src string, budget int) api.Table {
	t.Helper()
	x, fault := Compile(src, budget)
	if fault.E != api.OK || fault.At != 0 || fault.Rule != 0 || len(fault.Way)+len(fault.Round) != 0 {
		t.Fatalf("P1401: %s, budget %d: %v", src, budget, fault)
	}
	return x
}

// failed holds what there is no table for (P1401, P4).
func failed(t *testing.T, src string, budget int, want Fault) {
	t.Helper()
	x, fault := Compile(src, budget)
	if fault.E != want.E || fault.At != want.At || fault.Rule != want.Rule || !slices.Equal(fault.Way, want.Way) || !slices.Equal(fault.Round, want.Round) {
		t.Errorf("P1401: %.300s, budget %d: %v, not %v", src, budget, fault, want)
	}
	if tell(x) != tell(api.Table{}) {
		t.Errorf("P4: %.300s, budget %d: a table beside %v", src, budget, fault)
	}
}

// tell writes a table: no list and an empty one are the same.
func tell(x api.Table) string {
	return fmt.Sprint(x)
}

// trimmed tells a pattern's positions of f.
func trimmed(f api.File, x api.Rex) api.Side {
	sets := syn.Sets(f)
	cuts, letters := part.Cuts(sets)
	s, _ := side.Make(x, f)
	return side.Trim(s, part.In(sets, cuts, letters))
}

// sizes tells how many states back.Make and det.Make need for src.
func sizes(t *testing.T, src string) (ahead, behind int) {
	t.Helper()
	f, at, e := syn.Parse(src)
	if e != api.OK {
		t.Fatalf("%s: %d: %v", src, at, e)
	}
	sets := syn.Sets(f)
	cuts, letters := part.Cuts(sets)
	in, count := part.In(sets, cuts, letters), part.Count(letters)
	var lefts, rights []api.Side
	for _, r := range f.Rules {
		lefts, rights = append(lefts, trimmed(f, r.Left)), append(rights, trimmed(f, r.Right))
	}
	b, held, e := back.Make(rights, in, count, most)
	if e != api.OK {
		t.Fatalf("%s: %v", src, e)
	}
	g, e := det.Make(f.Rules, lefts, in, count, held, most)
	if e != api.OK {
		t.Fatalf("%s: %v", src, e)
	}
	return len(b.Next), len(g.Next)
}

// run tells what breaking text costs, place by place, by a table.
func run(x api.Table, text []int) []api.Vec {
	var l []int
	for _, n := range text {
		l = append(l, part.Letter(x.Cuts, x.Letters, n))
	}
	return det.Run(x.F, l, back.Run(x.B, l))
}

// says holds what src's table says of texts against what its rules say (T1).
func says(t *testing.T, src string, x api.Table, l [][]int) {
	t.Helper()
	f, _, _ := syn.Parse(src)
	for _, text := range l {
		if got, want := run(x, text), mean.Breaks(f, text); !slices.Equal(got, want) {
			t.Fatalf("T1: of %s, over %v: %v, not %v", src, text, got, want)
		}
	}
}

// texts tells all of up to so many scalars, of some that are of each kind.
func texts(long int) [][]int {
	l := [][]int{nil}
	for i := 0; i < len(l); i++ {
		for _, n := range []int{'a', 'b', 'e', api.Last} {
			if len(l[i]) < long {
				l = append(l, append(slices.Clone(l[i]), n))
			}
		}
	}
	return l
}

// twins tells, by chapters 7 and 8, which of f's Rules is the first one with a round that costs; -1: none has.
func twins(f api.File) int {
	return slices.IndexFunc(f.Rules, func(r api.Rule) bool { _, is := twin.Round(trimmed(f, r.Left)); return is })
}

// dice throws.
type dice struct{ n uint64 }

func (d *dice) of(k int) int {
	d.n = d.n*6364136223846793005 + 1442695040888963407
	return int(d.n>>33) % k
}

// pick throws for one of l.
func pick[T any](d *dice, l ...T) T {
	return l[d.of(len(l))]
}

// pattern throws one, so deep at most; weighed: costs may be in it.
func (d *dice) pattern(deep int, weighed bool) string {
	if deep == 0 {
		return pick(d, "a", "b", "v", ".", "any", "o", "()", "a", "b")
	}
	x := func() string { return "(" + d.pattern(deep-1, weighed) + ")" }
	switch d.of(7) {
	case 0, 1:
		return x() + " " + x()
	case 2:
		return x() + " | " + x()
	case 3:
		return x() + "*"
	case 4:
		return x() + pick(d, "{0,1}", "{1,2}", "{2,2}", "{0,0}")
	case 5:
		if weighed {
			return "(" + x() + fmt.Sprint(" @ ", d.of(4)) + pick(d, ")", ")*")
		}
	}
	return d.pattern(0, weighed)
}

// rules throws some.
func (d *dice) rules(deep int) string {
	var w strings.Builder
	w.WriteString(defs)
	for range d.of(4) {
		fmt.Fprintf(&w, "%s %d : %s / %s ;\n", pick(d, "line", "hyphen", "emergency"), d.of(9), d.pattern(d.of(deep+1), true), d.pattern(d.of(deep), false))
	}
	return w.String()
}
