package back

import (
	"fmt"
	"slices"
	"strconv"
	"strings"
	"testing"

	"hyphen/api"
)

// number reads one; - for Inf.
func number(t *testing.T, word string) int {
	t.Helper()
	if word == "-" {
		return api.Inf
	}
	n, err := strconv.Atoi(word)
	if err != nil {
		t.Fatal(err)
	}
	return n
}

// numbers reads some.
func numbers(t *testing.T, s string) []int {
	t.Helper()
	var l []int
	for _, word := range strings.Fields(s) {
		l = append(l, number(t, word))
	}
	return l
}

// positions reads a side: "Sets; First; Ends; Arcs; None", a set of any letter as ".", an Arc as "0>1".
func positions(t *testing.T, s string) api.Side {
	t.Helper()
	parts := strings.Split(s, ";")
	if len(parts) != 5 {
		t.Fatalf("%q: no side", s)
	}
	sets := numbers(t, strings.ReplaceAll(parts[0], ".", "-1"))
	z := api.Side{Sets: sets, First: numbers(t, parts[1]), Ends: numbers(t, parts[2]), None: number(t, strings.TrimSpace(parts[4]))}
	for _, word := range strings.Fields(parts[3]) {
		from, to, _ := strings.Cut(word, ">")
		z.Arcs = append(z.Arcs, api.Arc{From: number(t, from), To: number(t, to)})
	}
	return z
}

// sides reads several.
func sides(t *testing.T, l ...string) []api.Side {
	t.Helper()
	var all []api.Side
	for _, s := range l {
		all = append(all, positions(t, s))
	}
	return all
}

// grid reads "01 10" as rows of bools.
func grid(s string) [][]bool {
	var all [][]bool
	for _, word := range strings.Fields(s) {
		var row []bool
		for _, c := range word {
			row = append(row, c == '1')
		}
		all = append(all, row)
	}
	return all
}

// says tells what Make answers.
func says(sides []api.Side, in [][]bool, letters, budget int) string {
	b, sets, e := Make(sides, in, letters, budget)
	return fmt.Sprint(b, sets, e)
}

// isOf tells by the words of chapter 9 whether a letter is of a position.
func isOf(s api.Side, in [][]bool, at, letter int) bool {
	return s.Sets[at] == -1 || in[s.Sets[at]][letter]
}

// live tells by the words of chapter 9 which of a side's positions are, at a place of a text of letters.
func live(s api.Side, in [][]bool, text []int, place int) []bool {
	is := make([]bool, len(s.Sets))
	if place == len(text) {
		return is
	}
	next := live(s, in, text, place+1)
	for at := range is {
		leads := slices.ContainsFunc(s.Arcs, func(a api.Arc) bool { return a.From == at && next[a.To] })
		is[at] = isOf(s, in, at, text[place]) && (s.Ends[at] < api.Inf || leads)
	}
	return is
}

// holds tells by the words of chapter 9 whether a side does, at a place of a text of letters.
func holds(s api.Side, in [][]bool, text []int, place int) bool {
	is := s.None < api.Inf
	for at, alive := range live(s, in, text, place) {
		is = is || alive && s.First[at] < api.Inf
	}
	return is
}

// all tells f of each side.
func all[T any](sides []api.Side, f func(s api.Side) T) []T {
	l := []T{}
	for _, s := range sides {
		l = append(l, f(s))
	}
	return l
}

// plain is a machine made by the words alone: states by the first texts that lead there, asked anew from their ends on.
type plain struct {
	made  api.Back
	sets  [][]bool
	texts [][]int // of each state the first one that leads there
}

// plainly makes one; false: it has more than most states.
func plainly(sides []api.Side, in [][]bool, letters, most int) (p plain, is bool) {
	states, outs := map[string]int{}, map[string]int{}
	state := func(text []int) int {
		k := fmt.Sprint(all(sides, func(s api.Side) []bool { return live(s, in, text, 0) }))
		at, is := states[k]
		if !is {
			at = len(p.texts)
			states[k], p.texts = at, append(p.texts, text)
		}
		return at
	}
	state(nil)
	for at := 0; at < len(p.texts) && len(p.texts) <= most; at++ {
		text := p.texts[at]
		row := all(sides, func(s api.Side) bool { return holds(s, in, text, 0) })
		k := fmt.Sprint(row)
		out, is := outs[k]
		if !is {
			out = len(p.sets)
			outs[k], p.sets = out, append(p.sets, row)
		}
		next := []int{}
		for letter := range letters {
			next = append(next, state(append([]int{letter}, text...)))
		}
		p.made.Next, p.made.Out = append(p.made.Next, next), append(p.made.Out, out)
	}
	return p, len(p.texts) <= most
}

// says tells the machine as Make's answer is told.
func (p plain) says() string {
	return fmt.Sprint(p.made, p.sets, api.OK)
}

// dice throws.
type dice struct{ n uint64 }

func (d *dice) of(k int) int {
	d.n = d.n*6364136223846793005 + 1442695040888963407
	return int(d.n>>33) % k
}

// pick throws for one of l.
func pick[T any](d *dice, l ...T) T {
	return l[d.of(len(l))]
}

// side throws one of up to most positions, of so many Defs: one of so many Arcs is there, those to the next one more often.
func (d *dice) side(most, defs int) api.Side {
	size, rare := d.of(most+1), 1+d.of(2*most+1)
	s := api.Side{None: pick(d, 0, 3, api.Inf, api.Inf, api.Inf, api.Inf, api.Inf)}
	for from := range size {
		s.Sets = append(s.Sets, d.of(defs+1)-1)
		s.First, s.Ends = append(s.First, pick(d, 0, 3, api.Inf)), append(s.Ends, pick(d, 0, 1, api.Inf, api.Inf))
		for to := range size {
			if d.of(rare) == 0 || to == from+1 && d.of(3) > 0 {
				s.Arcs = append(s.Arcs, api.Arc{From: from, To: to, W: pick(d, 0, 0, 2, api.Inf-1)})
			}
		}
	}
	return s
}

// sides throws some.
func (d *dice) sides(most, positions, defs int) []api.Side {
	var l []api.Side
	for range d.of(most + 1) {
		l = append(l, d.side(positions, defs))
	}
	return l
}

// grid throws rows: of so many Defs, of so many letters.
func (d *dice) grid(defs, letters int) [][]bool {
	var in [][]bool
	for range defs {
		row := []bool{}
		for range letters {
			row = append(row, d.of(2) == 0)
		}
		in = append(in, row)
	}
	return in
}

// text throws one of at most so many letters.
func (d *dice) text(most, letters int) []int {
	var l []int
	for range d.of(most + 1) {
		if letters > 0 {
			l = append(l, d.of(letters))
		}
	}
	return l
}
