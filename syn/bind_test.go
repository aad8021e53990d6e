package syn

import (
	"strconv"
	"strings"
	"testing"

	"hyphen/api"
)

// How closely each sign of sets binds.
func TestClassesBind(t *testing.T) {
	x, y, z := named("x"), named("y"), all()
	for s, want := range map[string]api.Class{
		"x": x, "any": z, "(x)": x, "((any))": z, "'x'": span('x', 'x'), "!x": not(x), "!!x": not(not(x)), "!(!x)": not(not(x)), "!(x)": not(x),
		"!'a'..'b'":     not(span('a', 'b')),
		"x | y":         two(api.COr, x, y),
		"x - y":         two(api.CLess, x, y),
		"x & y":         two(api.CAnd, x, y),
		"x|y|any":       two(api.COr, two(api.COr, x, y), z),
		"x-y-any":       two(api.CLess, two(api.CLess, x, y), z),
		"x&y&any":       two(api.CAnd, two(api.CAnd, x, y), z),
		"x | y - any":   two(api.CLess, two(api.COr, x, y), z),
		"x - y | any":   two(api.COr, two(api.CLess, x, y), z),
		"x | (y | any)": two(api.COr, x, two(api.COr, y, z)),
		"x - (y - any)": two(api.CLess, x, two(api.CLess, y, z)),
		"x - (y | any)": two(api.CLess, x, two(api.COr, y, z)),
		"x & (y & any)": two(api.CAnd, x, two(api.CAnd, y, z)),
		"x | y & any":   two(api.COr, x, two(api.CAnd, y, z)),
		"x & y | any":   two(api.COr, two(api.CAnd, x, y), z),
		"x - y & any":   two(api.CLess, x, two(api.CAnd, y, z)),
		"x & y - any":   two(api.CLess, two(api.CAnd, x, y), z),
		"x & (y - any)": two(api.CAnd, x, two(api.CLess, y, z)),
		"(x | y) & any": two(api.CAnd, two(api.COr, x, y), z),
		"!x & y":        two(api.CAnd, not(x), y),
		"x & !y":        two(api.CAnd, x, not(y)),
		"!x | y":        two(api.COr, not(x), y),
		"!(x & y)":      not(two(api.CAnd, x, y)),
		"!(x | y) - z0": two(api.CLess, not(two(api.COr, x, y)), named("z0")),
		"x & y | y & x": two(api.COr, two(api.CAnd, x, y), two(api.CAnd, y, x)),
		"x - y & x - y": two(api.CLess, two(api.CLess, x, two(api.CAnd, y, x)), y),
	} {
		if got := strings.Join(strings.Fields(s), ""); !sameClass(got, want) || !sameClass(s, want) {
			t.Errorf("P501: %s", s)
		}
	}
}

// sameClass tells whether s is read as that set.
func sameClass(s string, want api.Class) bool {
	f, _, e := Parse("class x = 'x';class y = 'y';class z0 = any;class k = " + s + ";")
	return e == api.OK && same(f.Defs[3], api.Def{Name: "k", C: want})
}

// How closely each sign of patterns binds.
func TestPatternsBind(t *testing.T) {
	a, b, c := one("a"), one("b"), one("c")
	for s, want := range map[string]api.Rex{
		"": none(), "()": none(), "(())": none(), "(|)": alt(none(), none()), "a": a, "(a)": a, ".": dot(), "any": dot(), "((.))": dot(),
		"a b":             cat(a, b),
		"a b c":           cat(cat(a, b), c),
		"a (b c)":         cat(a, cat(b, c)),
		"(a b) c":         cat(cat(a, b), c),
		"a () b":          cat(cat(a, none()), b),
		"() ()":           cat(none(), none()),
		"a . any":         cat(cat(a, dot()), dot()),
		"..":              cat(dot(), dot()),
		"a | b":           alt(a, b),
		"a | b | c":       alt(alt(a, b), c),
		"a | (b | c)":     alt(a, alt(b, c)),
		"|":               alt(none(), none()),
		"||":              alt(alt(none(), none()), none()),
		"a |":             alt(a, none()),
		"| a":             alt(none(), a),
		"a || b":          alt(alt(a, none()), b),
		"a b | c":         alt(cat(a, b), c),
		"a | b c":         alt(a, cat(b, c)),
		"a (b | c)":       cat(a, alt(b, c)),
		"(a | b) c":       cat(alt(a, b), c),
		"a*":              star(a),
		"a**":             star(star(a)),
		"a b*":            cat(a, star(b)),
		"a* b":            cat(star(a), b),
		"(a b)*":          star(cat(a, b)),
		"a | b*":          alt(a, star(b)),
		"(a | b)*":        star(alt(a, b)),
		"()*":             star(none()),
		"(a |)*":          star(alt(a, none())),
		"a b{1,2}":        cat(a, times(b, 1, 2)),
		"a{0,0}":          times(a, 0, 0),
		"a{1,2}*":         star(times(a, 1, 2)),
		"a*{1,2}":         times(star(a), 1, 2),
		"a{1,2}{3,4}":     times(times(a, 1, 2), 3, 4),
		"a | b{1,2} c":    alt(a, cat(times(b, 1, 2), c)),
		"a @ 5":           cost(a, 5),
		"a b @ 5":         cat(a, cost(b, 5)),
		"(a b) @ 5":       cost(cat(a, b), 5),
		"a | b @ 5":       alt(a, cost(b, 5)),
		"a @ 5 b":         cat(cost(a, 5), b),
		"a @ 5 | b":       alt(cost(a, 5), b),
		"a @ 5 @ 6":       cost(cost(a, 5), 6),
		"a @ 5 * {6,7}":   times(star(cost(a, 5)), 6, 7),
		"a* {6,7} @ 5":    cost(times(star(a), 6, 7), 5),
		"() @ 0":          cost(none(), 0),
		"a (b | c*) @ 5*": cat(a, star(cost(alt(b, star(c)), 5))),
	} {
		rule := api.Rule{Cat: 1, Cost: 7, Left: want, Right: none()}
		reads(t, abc+"hyphen 7 : "+s+"/;", api.File{Defs: abcDefs(), Rules: []api.Rule{rule}})
		if !strings.Contains(s, "@") {
			rule = api.Rule{Cat: 2, Cost: 0, Left: none(), Right: want}
			reads(t, abc+"emergency 0:/"+s+";", api.File{Defs: abcDefs(), Rules: []api.Rule{rule}})
		}
	}
}

// terse writes rules with no bracket more than is asked for, and throws what is between signs.
type terse struct {
	*dice
	strings.Builder
	deep, most int
}

// put writes one sign.
func (w *terse) put(s string) {
	w.WriteString(s + pick(w.dice, " ", " ", " ", " ", "\n", "  ", "#\n", "# ' $\xff;\n "))
}

// opened counts what is written within a bracket or a not.
func (w *terse) opened(write func()) {
	w.deep++
	w.most = max(w.most, w.deep)
	write()
	w.deep--
}

// within writes, in brackets where they are asked for, and at times where they are not.
func (w *terse) within(asked bool, write func()) {
	if !asked && w.of(12) > 0 {
		write()
		return
	}
	w.put("(")
	w.opened(write)
	w.put(")")
}

// class writes a set; least: 0, where any set may stand, 1 ahead of &, 2 behind it, 3 behind !.
func (w *terse) class(c api.Class, least int) {
	binds := map[int]int{api.COr: 0, api.CLess: 0, api.CAnd: 1, api.CNot: 2}
	sign := map[int]string{api.COr: "|", api.CLess: "-", api.CAnd: "&"}
	switch c.Kind {
	case api.CRange:
		w.span(c)
	case api.CName:
		w.within(false, func() { w.put(c.Name) })
	case api.CAny:
		w.within(false, func() { w.put("any") })
	case api.CNot:
		w.within(false, func() {
			w.put("!")
			w.opened(func() { w.class(c.L[0], 2) })
		})
	default:
		own := binds[c.Kind]
		w.within(own < least, func() {
			w.class(c.L[0], own)
			w.put(sign[c.Kind])
			w.class(c.L[1], own+1)
		})
	}
}

// span writes scalars, in one of the ways that they may be written.
func (w *terse) span(c api.Class) {
	w.scalar(c.Lo)
	if c.Lo < c.Hi || w.of(5) == 0 {
		w.put(".")
		w.put(".")
		w.scalar(c.Hi)
	}
}

func (w *terse) scalar(n int) {
	if n >= 32 && n <= 126 && w.of(2) == 0 {
		w.put("'" + string(rune(n)) + "'")
		return
	}
	code := strings.ToUpper(strconv.FormatInt(int64(n), 16))
	w.put("U+" + strings.Repeat("0", w.of(7-len(code))) + code)
}

// rex writes a pattern; least: 0, where any may stand, 1 behind |, 2 side by side with others, 3 where one part may stand.
func (w *terse) rex(x api.Rex, least int) {
	switch x.Kind {
	case api.RNone:
		if least > 1 || w.of(2) == 0 {
			w.within(true, func() {})
		}
	case api.RSet:
		w.within(false, func() { w.put(x.Name) })
	case api.RAny:
		w.within(false, func() { w.put(pick(w.dice, ".", "any")) })
	case api.RAlt:
		w.within(least > 0, func() {
			w.rex(x.L[0], 0)
			w.put("|")
			w.rex(x.L[1], 1)
		})
	case api.RCat:
		w.within(least > 2, func() {
			w.rex(x.L[0], 2)
			w.rex(x.L[1], 3)
		})
	default:
		w.within(false, func() {
			w.rex(x.L[0], 3)
			w.behind(x)
		})
	}
}

// behind writes what is said of a part behind it.
func (w *terse) behind(x api.Rex) {
	switch x.Kind {
	case api.RStar:
		w.put("*")
	case api.RTimes:
		for _, s := range []string{"{", strconv.Itoa(x.Lo), ",", "00"[w.of(3):] + strconv.Itoa(x.Hi), "}"} {
			w.put(s)
		}
	case api.RWeight:
		w.put("@")
		w.put(strconv.Itoa(x.W))
	}
}

// file writes rules.
func (w *terse) file(f api.File) {
	for _, d := range f.Defs {
		w.put("class")
		w.put(d.Name)
		w.put("=")
		w.class(d.C, 0)
		w.put(";")
	}
	for _, r := range f.Rules {
		w.put([]string{"line", "hyphen", "emergency"}[r.Cat])
		w.put(strconv.Itoa(r.Cost))
		w.put(":")
		w.rex(r.Left, 0)
		w.put("/")
		w.rex(r.Right, 0)
		w.put(";")
	}
}

// What is written tersely is read as it was meant.
func TestTerse(t *testing.T) {
	d := &dice{5}
	short := 0
	for range 20000 {
		f := d.file()
		w := terse{dice: d}
		w.file(f)
		if s := w.String(); len(s) <= api.MaxSrc && w.most <= api.MaxDeep {
			short++
			reads(t, s, f)
		}
		if t.Failed() {
			return
		}
	}
	if short < 15000 {
		t.Errorf("no more than %d of them were short", short)
	}
}
