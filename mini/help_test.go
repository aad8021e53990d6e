package mini

import (
	"fmt"
	"slices"
	"strconv"
	"strings"
	"testing"

	"hyphen/api"
	"hyphen/trop"
)

// number reads one; - for Inf.
func number(t *testing.T, word string) int {
	t.Helper()
	if word == "-" {
		return api.Inf
	}
	n, err := strconv.Atoi(word)
	if err != nil {
		t.Fatal(err)
	}
	return n
}

// numbers reads some.
func numbers(t *testing.T, s string) []int {
	t.Helper()
	var l []int
	for _, word := range strings.Fields(s) {
		l = append(l, number(t, word))
	}
	return l
}

// vecs reads some: "1 2 -, 0 0 0"; none of blanks.
func vecs(t *testing.T, s string) []api.Vec {
	t.Helper()
	if strings.TrimSpace(s) == "" {
		return nil
	}
	var l []api.Vec
	for _, word := range strings.Split(s, ",") {
		l = append(l, api.Vec(numbers(t, word)))
	}
	return l
}

// backOf reads a machine: of each state where it leads, and its Out: "1 0: 5; 1 1: 7".
func backOf(t *testing.T, s string) api.Back {
	t.Helper()
	var b api.Back
	for _, state := range strings.Split(s, ";") {
		next, out, _ := strings.Cut(state, ":")
		b.Next, b.Out = append(b.Next, numbers(t, next)), append(b.Out, number(t, strings.TrimSpace(out)))
	}
	return b
}

// fwdOf reads one: of each state where it leads, and its Emit: "1 0: 1 2 -, 0 0 0; 1 1: 0 0 0, 0 0 0".
func fwdOf(t *testing.T, s string) api.Fwd {
	t.Helper()
	var f api.Fwd
	for _, state := range strings.Split(s, ";") {
		next, emit, _ := strings.Cut(state, ":")
		f.Next, f.Emit = append(f.Next, numbers(t, next)), append(f.Emit, vecs(t, emit))
	}
	return f
}

// row writes numbers.
func row(l []int) string {
	return strings.Trim(fmt.Sprint(l), "[]")
}

// tellBack writes a machine as backOf reads it.
func tellBack(b api.Back) string {
	if len(b.Next) != len(b.Out) {
		return fmt.Sprint(b)
	}
	var l []string
	for state, next := range b.Next {
		l = append(l, fmt.Sprint(row(next), ": ", b.Out[state]))
	}
	return strings.Join(l, "; ")
}

// tellFwd writes one as fwdOf reads it.
func tellFwd(f api.Fwd) string {
	if len(f.Next) != len(f.Emit) {
		return fmt.Sprint(f)
	}
	var l []string
	for state, next := range f.Next {
		var words []string
		for _, v := range f.Emit[state] {
			words = append(words, trop.Text(v))
		}
		l = append(l, row(next)+": "+strings.Join(words, ", "))
	}
	return strings.Join(l, "; ")
}

// saying is b, as one that goes forward: of each Out the Emit that say tells.
func saying(b api.Back, say func(out int) []api.Vec) api.Fwd {
	f := api.Fwd{Next: b.Next}
	for _, out := range b.Out {
		f.Emit = append(f.Emit, say(out))
	}
	return f
}

// plain tells Emits that differ where Outs do, in one number of the last of two Vecs.
func plain(out int) []api.Vec {
	return []api.Vec{{1, 2, api.Inf}, {out % 5, 3, out / 5}}
}

// words tells all rows of up to so many letters, shorter ones first.
func words(letters, most int) [][]int {
	l := [][]int{nil}
	for i := 0; i < len(l); i++ {
		if len(l[i]) < most {
			for letter := range letters {
				l = append(l, append(slices.Clone(l[i]), letter))
			}
		}
	}
	return l
}

// led tells where a row of letters leads to from a state.
func led(next [][]int, state int, text []int) int {
	for _, letter := range text {
		state = next[state][letter]
	}
	return state
}

// letters tells how many a machine has.
func letters(next [][]int) int {
	return len(next[0])
}

// says tells what a state says of all rows of letters that could tell states apart: of fewer letters than there are states.
func says(b api.Back, state int) string {
	var l []int
	for _, text := range words(letters(b.Next), len(b.Next)-1) {
		l = append(l, b.Out[led(b.Next, state, text)])
	}
	return fmt.Sprint(l)
}

// plainly makes the machine, and names, by the words of chapter 11 alone: rows of letters in their order meet states, and what these say tells which are alike.
func plainly(b api.Back) (c api.Back, names []int) {
	names = slices.Repeat([]int{-1}, len(b.Next))
	numbers := map[string]int{}
	var first []int
	for _, text := range words(letters(b.Next), len(b.Next)-1) {
		state := led(b.Next, 0, text)
		if names[state] >= 0 {
			continue
		}
		said := says(b, state)
		at, is := numbers[said]
		if !is {
			at = len(first)
			numbers[said], first = at, append(first, state)
		}
		names[state] = at
	}
	for _, state := range first {
		var next []int
		for _, to := range b.Next[state] {
			next = append(next, names[to])
		}
		c.Next, c.Out = append(c.Next, next), append(c.Out, b.Out[state])
	}
	return c, names
}

// dice throws.
type dice struct{ n uint64 }

func (d *dice) of(k int) int {
	d.n = d.n*6364136223846793005 + 1442695040888963407
	return int(d.n>>33) % k
}

// pick throws for one of l.
func pick[T any](d *dice, l ...T) T {
	return l[d.of(len(l))]
}

// mix throws for an order of 0 to size - 1, in which 0 stays first.
func (d *dice) mix(size int) []int {
	var l []int
	for i := range size {
		l = append(l, i)
		if k := d.of(i + 1); k > 0 {
			l[i], l[k] = l[k], l[i]
		}
	}
	return l
}

// machine throws one.
func (d *dice) machine(states, letters, outs int) api.Back {
	var b api.Back
	for range states {
		next := []int{}
		for range letters {
			next = append(next, d.of(states))
		}
		b.Next, b.Out = append(b.Next, next), append(b.Out, d.of(outs))
	}
	return b
}

// blown throws a machine that says what b says: of each state one or more, up to most, which lead to any of those that are alike; and further ones, that 0 does not lead to; in any order.
func (d *dice) blown(b api.Back, most, further int) api.Back {
	of, copies := []int{}, make([][]int, len(b.Next))
	for state := range b.Next {
		for range 1 + d.of(most) {
			copies[state], of = append(copies[state], len(of)), append(of, state)
		}
	}
	inner := len(of)
	for range further {
		of = append(of, d.of(len(b.Next)))
	}
	mixed := d.mix(len(of))
	c := api.Back{Next: make([][]int, len(of)), Out: make([]int, len(of))}
	for state, was := range of {
		next := []int{}
		for _, to := range b.Next[was] {
			led := pick(d, copies[to]...)
			if state >= inner && d.of(3) == 0 {
				led = d.of(len(of))
			}
			next = append(next, mixed[led])
		}
		c.Next[mixed[state]], c.Out[mixed[state]] = next, b.Out[was]
	}
	return c
}
