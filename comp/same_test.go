package comp

import (
	"fmt"
	"slices"
	"strings"
	"testing"

	"hyphen/api"
	"hyphen/syn"
	"hyphen/table"
)

// drawn is a Rule as a text, its Left one of two.
type drawn struct {
	cat                  string
	cost                 int
	left, other, ofRight string
}

// String tells the Rule.
func (r drawn) String() string {
	return fmt.Sprintf("%s %d : %s | %s / %s ;", r.cat, r.cost, r.left, r.other, r.ofRight)
}

// draw throws one.
func (d *dice) draw() drawn {
	return drawn{pick(d, "line", "hyphen", "emergency"), d.of(9), d.pattern(2, true), d.pattern(d.of(2), true), d.pattern(d.of(3), false)}
}

// written tells Rules one behind the other.
func written(l ...drawn) string {
	var w strings.Builder
	for _, r := range l {
		w.WriteString(r.String())
	}
	return w.String()
}

// each tells what change makes of all of l.
func each(l []drawn, change func(drawn) string) string {
	var w strings.Builder
	for _, r := range l {
		w.WriteString(change(r))
	}
	return w.String()
}

// shuffled tells l in another order.
func (d *dice) shuffled(l []drawn) []drawn {
	l = slices.Clone(l)
	for i := range l {
		j := i + d.of(len(l)-i)
		l[i], l[j] = l[j], l[i]
	}
	return l
}

// Rules in another order, twice, split, dearer ones beside them, what they cost told by weights: the same bytes (P1402, T3).
func TestRulesThatSayTheSame(t *testing.T) {
	d := &dice{89}
	tables := 0
	for range 400 {
		l := []drawn{d.draw(), d.draw(), d.draw()}[:1+d.of(3)]
		x, fault := Compile(defs+written(l...), most)
		ways := map[string]string{
			"in another order": written(d.shuffled(l)...),
			"twice":            written(append(d.shuffled(l), l...)...),
			"split": each(l, func(r drawn) string {
				return fmt.Sprintf("%s %d : %s / %s ;%[1]s %[2]d : %[5]s / %[4]s ;", r.cat, r.cost, r.left, r.ofRight, r.other)
			}),
			"turned": each(l, func(r drawn) string { return drawn{r.cat, r.cost, r.other, r.left, r.ofRight}.String() }),
			"dearer": each(l, func(r drawn) string { return r.String() + drawn{r.cat, r.cost + 3, r.other, "o", r.ofRight}.String() }),
			"weighed": each(l, func(r drawn) string {
				return fmt.Sprintf("%s 0 : (%s | %s) @ %d / %s ;", r.cat, r.left, r.other, r.cost, r.ofRight)
			}),
			"doubled": each(l, func(r drawn) string {
				return drawn{r.cat, r.cost, r.left, r.left + " | " + r.other, "(" + r.ofRight + "){1,1} | " + r.ofRight}.String()
			}),
		}
		for name, src := range ways {
			y, again := Compile(defs+src, most)
			if (fault.E == api.OK) != (again.E == api.OK) || string(table.Save(x)) != string(table.Save(y)) {
				t.Fatalf("T3: %s, %s: %v; %s: %v", name, written(l...), fault, src, again)
			}
		}
		if fault.E == api.OK {
			tables++
		}
	}
	if tables < 200 {
		t.Errorf("T3: only %d tables", tables)
	}
}

// renamed tells x with other names.
func renamed(x api.Rex, names map[string]string) api.Rex {
	x.Name = names[x.Name]
	x.L = slices.Clone(x.L)
	for i := range x.L {
		x.L[i] = renamed(x.L[i], names)
	}
	return x
}

// Other names, Defs in another order, told in other words, one more that parts no letters, other blanks and remarks: the same bytes, and the same faults but for their places (P1402, T3).
func TestNamesAndBlanks(t *testing.T) {
	d := &dice{97}
	names := map[string]string{"": "", "a": "o2", "b": "abcdefghijkl", "v": "a", "o": "v"}
	other := "class v = !any;class a = U+65 | U+61;class x = (a - U+61 | v) & !v;class o2 = a & ! 'e';class abcdefghijkl = 'a'..'e' & 'b';"
	for range 300 {
		src := d.rules(3)
		x, fault := Compile(src, 500)
		f, _, _ := syn.Parse(src)
		for i := range f.Rules {
			f.Rules[i].Left, f.Rules[i].Right = renamed(f.Rules[i].Left, names), renamed(f.Rules[i].Right, names)
		}
		for _, same := range []string{
			other + syn.Text(api.File{Rules: f.Rules}),
			strings.ReplaceAll(src, " ", "\n #?;'\xff\n "),
			"#" + strings.Repeat("\n", 9) + strings.ReplaceAll(src, ";", " ; #"+"\n") + "# line",
		} {
			y, again := Compile(same, 500)
			if tell(x) != tell(y) || fmt.Sprint(fault) != fmt.Sprint(again) {
				t.Fatalf("T3: of %s: %v, %v; of %s: %v, %v", src, x, fault, same, y, again)
			}
		}
	}
}

// apart tells, by pairs, whether any two of so many states say other things of some row of letters.
func apart(next [][]int, says func(state int) string) bool {
	is := map[[2]int]bool{}
	for again := true; again; {
		again = false
		for i := range next {
			for j := range i {
				if is[[2]int{i, j}] {
					continue
				}
				now := says(i) != says(j)
				for letter, to := range next[i] {
					other := next[j][letter]
					now = now || is[[2]int{max(to, other), min(to, other)}]
				}
				if now {
					is[[2]int{i, j}], again = true, true
				}
			}
		}
	}
	return len(is) == len(next)*(len(next)-1)/2
}

// inOrder tells whether states are numbered as they are first met, and all of them are met.
func inOrder(next [][]int) bool {
	met := 1
	for state, row := range next {
		if state >= met {
			return false
		}
		for _, to := range row {
			if to > met {
				return false
			}
			met = max(met, to+1)
		}
	}
	return met == len(next)
}

// No two states of a table say the same, and they are numbered as they are first met (P1401, P1402, T3).
func TestNoTwoStatesAlike(t *testing.T) {
	d := &dice{101}
	large := 0
	for range 400 {
		src := d.rules(3)
		x, fault := Compile(src, 60)
		if fault.E != api.OK {
			continue
		}
		b := apart(x.B.Next, func(state int) string { return fmt.Sprint(x.B.Out[state]) })
		f := apart(x.F.Next, func(state int) string { return fmt.Sprint(x.F.Emit[state]) })
		if !b || !f || !inOrder(x.B.Next) || !inOrder(x.F.Next) {
			t.Fatalf("T3: of %s: %v", src, x)
		}
		if len(x.B.Next)+len(x.F.Next) > 6 {
			large++
		}
	}
	if large < 30 {
		t.Errorf("T3: only %d tables are large", large)
	}
}
