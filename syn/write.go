package syn

import (
	"strconv"
	"strings"

	"hyphen/api"
)

// writer gathers a text.
type writer struct {
	strings.Builder
}

// all writes words one behind the other.
func (w *writer) all(words ...string) {
	for _, s := range words {
		w.WriteString(s)
	}
}

// def writes a Def's line.
func (w *writer) def(d api.Def) {
	w.all("class ", d.Name, " = ")
	w.class(d.C)
	w.all(";\n")
}

// rule writes a Rule's line.
func (w *writer) rule(r api.Rule) {
	w.all(catWord(r.Cat), " ", strconv.Itoa(r.Cost), " : ")
	w.rex(r.Left)
	w.all(" / ")
	w.rex(r.Right)
	w.all(";\n")
}

// catWord tells the word that Rules of cat begin with.
func catWord(cat int) string {
	switch cat {
	case 0:
		return "line"
	case 1:
		return "hyphen"
	}
	return "emergency"
}

// class writes a set.
func (w *writer) class(c api.Class) {
	switch c.Kind {
	case api.CRange:
		w.span(c.Lo, c.Hi)
	case api.CName:
		w.all(c.Name)
	case api.CAny:
		w.all("any")
	case api.CNot:
		w.all("!")
		w.classWithin(child(c.L, 0))
	case api.COr:
		w.twoClasses(c.L, " | ")
	case api.CAnd:
		w.twoClasses(c.L, " & ")
	case api.CLess:
		w.twoClasses(c.L, " - ")
	}
}

// span writes the scalars from lo to hi.
func (w *writer) span(lo, hi int) {
	w.all("U+", code(lo))
	if lo != hi {
		w.all("..U+", code(hi))
	}
}

// code tells n's digits of sixteen.
func code(n int) string {
	return strings.ToUpper(strconv.FormatInt(int64(n), 16))
}

// twoClasses writes two sets that others are made of.
func (w *writer) twoClasses(l []api.Class, between string) {
	w.classWithin(child(l, 0))
	w.all(between)
	w.classWithin(child(l, 1))
}

// classWithin writes a set that others are made of.
func (w *writer) classWithin(c api.Class) {
	switch c.Kind {
	case api.CRange, api.CName, api.CAny:
		w.class(c)
		return
	}
	w.all("(")
	w.class(c)
	w.all(")")
}

// rex writes a pattern.
func (w *writer) rex(x api.Rex) {
	switch x.Kind {
	case api.RNone:
		w.all("()")
	case api.RSet:
		w.all(x.Name)
	case api.RAny:
		w.all("any")
	case api.RCat:
		w.twoRexes(x.L, " ")
	case api.RAlt:
		w.twoRexes(x.L, " | ")
	case api.RStar, api.RTimes, api.RWeight:
		w.rexWithin(child(x.L, 0))
		w.behind(x)
	}
}

// behind writes what x says of what it is made of.
func (w *writer) behind(x api.Rex) {
	switch x.Kind {
	case api.RStar:
		w.all("*")
	case api.RTimes:
		w.all("{", strconv.Itoa(x.Lo), ",", strconv.Itoa(x.Hi), "}")
	case api.RWeight:
		w.all(" @ ", strconv.Itoa(x.W))
	}
}

// twoRexes writes two patterns that others are made of.
func (w *writer) twoRexes(l []api.Rex, between string) {
	w.rexWithin(child(l, 0))
	w.all(between)
	w.rexWithin(child(l, 1))
}

// rexWithin writes a pattern that others are made of.
func (w *writer) rexWithin(x api.Rex) {
	switch x.Kind {
	case api.RSet, api.RAny, api.RNone:
		w.rex(x)
		return
	}
	w.all("(")
	w.rex(x)
	w.all(")")
}
