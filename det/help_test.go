package det

import (
	"fmt"
	"slices"
	"strconv"
	"strings"
	"testing"

	"hyphen/api"
	"hyphen/trop"
	"hyphen/twin"
)

// plenty is a budget that no machine of these tests needs.
const plenty = 1 << 40

// number reads one; - for Inf.
func number(t *testing.T, word string) int {
	t.Helper()
	if word == "-" {
		return api.Inf
	}
	n, err := strconv.Atoi(word)
	if err != nil {
		t.Fatal(err)
	}
	return n
}

// numbers reads some.
func numbers(t *testing.T, s string) []int {
	t.Helper()
	var l []int
	for _, word := range strings.Fields(s) {
		l = append(l, number(t, word))
	}
	return l
}

// arc reads "0>1", or, if it costs 3, "0>1:3".
func arc(t *testing.T, word string) api.Arc {
	t.Helper()
	way, cost, costs := strings.Cut(word, ":")
	from, to, _ := strings.Cut(way, ">")
	a := api.Arc{From: number(t, from), To: number(t, to)}
	if costs {
		a.W = number(t, cost)
	}
	return a
}

// positions reads a side: "Sets; First; Ends; Arcs; None", a set of any letter as ".".
func positions(t *testing.T, s string) api.Side {
	t.Helper()
	parts := strings.Split(s, ";")
	if len(parts) != 5 {
		t.Fatalf("%q: no side", s)
	}
	sets := numbers(t, strings.ReplaceAll(parts[0], ".", "-1"))
	z := api.Side{Sets: sets, First: numbers(t, parts[1]), Ends: numbers(t, parts[2]), None: number(t, strings.TrimSpace(parts[4]))}
	for _, word := range strings.Fields(parts[3]) {
		z.Arcs = append(z.Arcs, arc(t, word))
	}
	return z
}

// head reads a Rule's category and cost: "line 4".
func head(t *testing.T, s string) api.Rule {
	t.Helper()
	word, cost, _ := strings.Cut(s, " ")
	cat := slices.Index([]string{"line", "hyphen", "emergency"}, word)
	if cat < 0 {
		t.Fatalf("%q: no category", s)
	}
	return api.Rule{Cat: cat, Cost: number(t, cost)}
}

// grid reads "01 10" as rows of bools; "()" as an empty one.
func grid(s string) [][]bool {
	var all [][]bool
	for _, word := range strings.Fields(s) {
		row := []bool{}
		for _, c := range strings.Trim(word, "()") {
			row = append(row, c == '1')
		}
		all = append(all, row)
	}
	return all
}

// given is what Make is handed, but for a budget.
type given struct {
	rules   []api.Rule
	sides   []api.Side
	in      [][]bool
	letters int
	sets    [][]bool
}

// reads reads what is given; each Rule, and its Left, as "line 4 / Sets; First; Ends; Arcs; None".
func reads(t *testing.T, in string, letters int, sets string, rules ...string) given {
	t.Helper()
	g := given{in: grid(in), letters: letters, sets: grid(sets)}
	for _, s := range rules {
		rule, side, _ := strings.Cut(s, " / ")
		g.rules, g.sides = append(g.rules, head(t, rule)), append(g.sides, positions(t, side))
	}
	return g
}

// made asks Make.
func (g given) made(budget int) (api.Fwd, api.Errno) {
	return Make(g.rules, g.sides, g.in, g.letters, g.sets, budget)
}

// says tells what Make answers.
func (g given) says(budget int) string {
	return tell(g.made(budget))
}

// tell writes a machine: of each state its Next, and its Emit.
func tell(f api.Fwd, e api.Errno) string {
	if e != api.OK || len(f.Next) != len(f.Emit) {
		return fmt.Sprint(f, " ", e)
	}
	var states []string
	for at, next := range f.Next {
		states = append(states, strings.Trim(fmt.Sprint(next), "[]")+": "+tellVecs(f.Emit[at]))
	}
	return strings.Join(states, "; ")
}

// tellVecs writes some.
func tellVecs(vecs []api.Vec) string {
	var l []string
	for _, v := range vecs {
		l = append(l, trop.Text(v))
	}
	return strings.Join(l, ", ")
}

// isOfPosition tells by the words of chapter 9 whether a letter is.
func isOfPosition(s api.Side, in [][]bool, at, letter int) bool {
	return s.Sets[at] == -1 || in[s.Sets[at]][letter]
}

// sum tells what both cost, Inf at most.
func sum(a, b int) int {
	return min(a+b, api.Inf)
}

// row tells by the words of chapter 10, of each position of a side, the least cost of a way to it, at a text's end.
func row(s api.Side, in [][]bool, text []int) []int {
	costs := slices.Repeat([]int{api.Inf}, len(s.Sets))
	if len(text) == 0 {
		return costs
	}
	last := len(text) - 1
	ahead := row(s, in, text[:last])
	for at := range costs {
		if !isOfPosition(s, in, at, text[last]) {
			continue
		}
		costs[at] = min(s.First[at], api.Inf)
		for _, a := range s.Arcs {
			if a.To == at {
				costs[at] = min(costs[at], sum(ahead[a.From], a.W))
			}
		}
	}
	return costs
}

// vec tells by the words of chapter 10 what breaking at a text's end costs, where those Rules hold.
func (g given) vec(text []int, holds []bool) api.Vec {
	v := api.Vec{api.Inf, api.Inf, api.Inf}
	for i, r := range g.rules {
		if !holds[i] {
			continue
		}
		v[r.Cat] = min(v[r.Cat], sum(r.Cost, g.sides[i].None))
		for at, cost := range row(g.sides[i], g.in, text) {
			v[r.Cat] = min(v[r.Cat], sum(r.Cost, sum(cost, g.sides[i].Ends[at])))
		}
	}
	return v
}

// rows tells those of all sides.
func (g given) rows(text []int) [][]int {
	var l [][]int
	for _, s := range g.sides {
		l = append(l, row(s, g.in, text))
	}
	return l
}

// plainly makes the machine by the words alone: states by the first texts that lead there, asked anew from their beginnings on; false: it has more than most states.
func (g given) plainly(most int) (f api.Fwd, is bool) {
	states := map[string]int{}
	var texts [][]int
	state := func(text []int) int {
		k := fmt.Sprint(g.rows(text))
		at, is := states[k]
		if !is {
			at = len(texts)
			states[k], texts = at, append(texts, text)
		}
		return at
	}
	state(nil)
	for at := 0; at < len(texts) && len(texts) <= most; at++ {
		next, vecs := []int{}, []api.Vec{}
		for letter := range g.letters {
			next = append(next, state(append(slices.Clone(texts[at]), letter)))
		}
		for _, holds := range g.sets {
			vecs = append(vecs, g.vec(texts[at], holds))
		}
		f.Next, f.Emit = append(f.Next, next), append(f.Emit, vecs)
	}
	return f, len(texts) <= most
}

// dice throws.
type dice struct{ n uint64 }

func (d *dice) of(k int) int {
	d.n = d.n*6364136223846793005 + 1442695040888963407
	return int(d.n>>33) % k
}

// pick throws for one of l.
func pick[T any](d *dice, l ...T) T {
	return l[d.of(len(l))]
}

// side throws one of up to most positions, of so many Defs, no round of which costs.
func (d *dice) side(most, defs int) api.Side {
	for {
		s := api.Side{None: pick(d, 0, 3, api.Inf, api.Inf, api.Inf, api.Inf, api.Inf)}
		for range d.of(most + 1) {
			s.Sets = append(s.Sets, d.of(defs+1)-1)
			s.First, s.Ends = append(s.First, pick(d, 0, 0, 3, 5, api.Inf, api.Inf)), append(s.Ends, pick(d, 0, 1, 4, api.Inf-1, api.Inf))
		}
		d.link(&s)
		if _, costs := twin.Round(s); !costs {
			return s
		}
	}
}

// link throws s's Arcs: one of so many is there, those to the next one more often; where some lead back, too, few cost.
func (d *dice) link(s *api.Side) {
	rare, onward := 1+d.of(len(s.Sets)+1), d.of(2) == 0
	for from := range s.Sets {
		for to := range s.Sets {
			if onward && to <= from || d.of(rare) > 0 && (to != from+1 || d.of(3) == 0) {
				continue
			}
			a := api.Arc{From: from, To: to}
			if onward || d.of(9) == 0 {
				a.W = pick(d, 0, 0, 1, 2, 7, api.Inf-1)
			}
			s.Arcs = append(s.Arcs, a)
		}
	}
}

// grid throws rows, so long.
func (d *dice) grid(rows, length int) [][]bool {
	var l [][]bool
	for range rows {
		row := []bool{}
		for range length {
			row = append(row, d.of(2) == 0)
		}
		l = append(l, row)
	}
	return l
}

// given throws what Make is handed: up to so many Rules, with up to so many positions.
func (d *dice) given(rules, positions, defs, letters int) given {
	g := given{letters: letters, in: d.grid(defs, letters)}
	for range d.of(rules + 1) {
		g.rules = append(g.rules, api.Rule{Cat: d.of(3), Cost: pick(d, 0, 2, 6, api.MaxW, api.Inf-1)})
		g.sides = append(g.sides, d.side(positions, defs))
	}
	g.sets = d.grid(d.of(4), len(g.rules))
	return g
}

// text throws one of at most so many letters.
func (d *dice) text(most, letters int) []int {
	var l []int
	for range d.of(most + 1) {
		if letters > 0 {
			l = append(l, d.of(letters))
		}
	}
	return l
}

// labels throws one for each place of text, of so many.
func (d *dice) labels(text []int, many int) []int {
	var l []int
	for range len(text) + 1 {
		l = append(l, d.of(many))
	}
	return l
}
