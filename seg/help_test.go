package seg

import (
	"fmt"
	"math"
	"slices"
	"strings"
	"testing"

	"hyphen/api"
	"hyphen/trop"
)

// pairs is a table by which each place's line tells what is behind it, as tens, and what is ahead of it: 0 nothing, 1 another scalar, 2 a blank, 3 FFFD.
// A hyphen is forbidden where there is nothing ahead, else it costs so much less than Inf; an emergency costs 7 at the beginning, else nothing.
func pairs() api.Table {
	t := api.Table{Cuts: []int{0, ' ', ' ' + 1, api.Bad, api.Bad + 1}, Letters: []int{0, 1, 0, 2, 0}}
	for behind := range 4 {
		t.B.Next, t.B.Out = append(t.B.Next, []int{1, 2, 3}), append(t.B.Out, behind)
		var vecs []api.Vec
		for ahead := range 4 {
			vecs = append(vecs, api.Vec{10*behind + ahead, api.Inf - ahead, max(0, 7-10*behind)})
		}
		t.F.Next, t.F.Emit = append(t.F.Next, []int{1, 2, 3}), append(t.F.Emit, vecs)
	}
	return t
}

// pairsRow is what pairs tells where such are side by side.
func pairsRow(kinds ...int) []api.Vec {
	var row []api.Vec
	behind := 0
	for _, ahead := range append(kinds, 0) {
		row = append(row, api.Vec{10*behind + ahead, api.Inf - ahead, max(0, 7-10*behind)})
		behind = ahead
	}
	return row
}

// many is a table of three letters, three states of the one kind and two of the other, three labels.
func many() api.Table {
	return api.Table{
		Cuts: []int{0, 97, 98, 101, 0xe000}, Letters: []int{0, 1, 0, 2, 1},
		B: api.Back{Next: [][]int{{0, 1, 2}, {1, 1, 0}, {2, 0, 0}}, Out: []int{0, 2, 1}},
		F: api.Fwd{
			Next: [][]int{{0, 1, 0}, {1, 1, 0}},
			Emit: [][]api.Vec{{{5, 0, api.Inf}, {api.Inf, 1, 2}, {0, 0, 0}}, {{3, 4, 5}, {6, 7, 8}, {api.Inf - 1, api.Inf, 9}}},
		},
	}
}

// priced is a table, and a text, that tell just these costs, place by place.
func priced(row ...api.Vec) (api.Table, string) {
	t := api.Table{B: api.Back{Next: [][]int{nil}, Out: []int{0}}}
	var text strings.Builder
	var next []int
	for at, v := range row {
		t.Cuts, t.Letters, next = append(t.Cuts, at), append(t.Letters, at), append(next, at)
		t.F.Emit = append(t.F.Emit, []api.Vec{v})
		if at > 0 {
			text.WriteRune(rune(at))
		}
	}
	for range row {
		t.F.Next = append(t.F.Next, slices.Clone(next))
	}
	t.B.Next[0] = make([]int, len(row))
	return t, text.String()
}

// lines is costs of lines alone.
func lines(l ...int) []api.Vec {
	var row []api.Vec
	for _, n := range l {
		row = append(row, api.Vec{n, api.Inf, api.Inf})
	}
	return row
}

// wild is numbers that fit nowhere, and some that do.
func wild() []int {
	return []int{math.MinInt, math.MinInt + 1, -api.Inf, -2, -1, 0, 1, 2, 3, 4, 5, 63, 4000, 4001, 1 << 31, 1 << 32, api.Inf - 1, api.Inf, api.Inf + 1, math.MaxInt - 1, math.MaxInt}
}

// copied is t, in memory of its own.
func copied(t api.Table) api.Table {
	u := api.Table{Cuts: slices.Clone(t.Cuts), Letters: slices.Clone(t.Letters)}
	u.B.Next, u.B.Out = slices.Clone(t.B.Next), slices.Clone(t.B.Out)
	u.F.Next, u.F.Emit = slices.Clone(t.F.Next), slices.Clone(t.F.Emit)
	for _, next := range [][][]int{u.B.Next, u.F.Next} {
		for state, row := range next {
			next[state] = slices.Clone(row)
		}
	}
	for state, vecs := range u.F.Emit {
		u.F.Emit[state] = slices.Clone(vecs)
	}
	return u
}

// plainly tells, by the words of chapters 4, 9, 10 and 13 alone, what t tells of scalars.
func plainly(t api.Table, scalars []int) []api.Vec {
	var letters []int
	for _, n := range scalars {
		letter := 0
		for i, cut := range t.Cuts {
			if cut <= n {
				letter = t.Letters[i]
			}
		}
		letters = append(letters, letter)
	}
	outs, state := []int{t.B.Out[0]}, 0
	for _, letter := range slices.Backward(letters) {
		state = t.B.Next[state][letter]
		outs = append(outs, t.B.Out[state])
	}
	state = 0
	row := []api.Vec{t.F.Emit[0][outs[len(letters)]]}
	for at, letter := range letters {
		state = t.F.Next[state][letter]
		row = append(row, t.F.Emit[state][outs[len(letters)-1-at]])
	}
	return row
}

// bestOf tells, by the words of chapter 13 alone, what Best must tell.
func bestOf(row []api.Vec, lo, hi, cat int) (int, bool) {
	if lo < 0 || hi < 0 || hi >= len(row) || lo > hi || cat < 0 || cat > 2 {
		return 0, false
	}
	least := api.Inf
	for at := lo; at <= hi; at++ {
		least = min(least, row[at][cat])
	}
	for at := hi; at >= lo; at-- {
		if row[at][cat] == least && least != api.Inf {
			return at, true
		}
	}
	return 0, false
}

// said writes costs.
func said(row []api.Vec) string {
	var words []string
	for _, v := range row {
		words = append(words, trop.Text(v))
	}
	return strings.Join(words, ", ")
}

// told holds Segment, and New's row, against what they must tell (P1301, P1302).
func told(t *testing.T, x api.Table, s string, want []api.Vec) {
	t.Helper()
	got, e := Segment(x, s)
	if e != api.OK || !slices.Equal(got, want) {
		t.Fatalf("P1301: Segment of %.200q: %.600s, %v, not %.600s", s, said(got), e, said(want))
	}
	c := New(x, s)
	if c.Len() != len(want) {
		t.Fatalf("P1302: Len of %.200q: %d, not %d", s, c.Len(), len(want))
	}
	for at, v := range want {
		stands(t, c, at, v)
		if c.Next() != (at+1 < len(want)) {
			t.Fatalf("P1302: Next of %.200q at %d of %d", s, at, len(want))
		}
	}
}

// stands holds where a cursor is (P1302).
func stands(t *testing.T, c *Cursor, at int, v api.Vec) {
	t.Helper()
	if i, w := c.At(); i != at || w != v {
		t.Fatalf("P1302: At: %d, %s, not %d, %s", i, trop.Text(w), at, trop.Text(v))
	}
}

// refused holds what is told of what Segment refuses (P1301, P1302, P4).
func refused(t *testing.T, x api.Table, s string, want api.Errno, why string) {
	t.Helper()
	if row, e := Segment(x, s); e != want || len(row) != 0 {
		t.Errorf("P1301: %s: Segment of %d bytes: %d places, %v, not %v", why, len(s), len(row), e, want)
	}
	c := New(x, s)
	if got := answers(c); got != answers(&Cursor{}) || c.Len() != 0 {
		t.Errorf("P1302: %s: a cursor of no places tells %s", why, got)
	}
	stands(t, c, 0, trop.None())
}

// answers tells all that a cursor tells without going anywhere.
func answers(c *Cursor) string {
	at, v := c.At()
	said := fmt.Sprint(c.Len(), at, v)
	for _, lo := range []int{-1, 0, 1, c.Len() / 2, c.Len() - 1} {
		for _, hi := range []int{lo - 1, lo, lo + 2, c.Len() - 2, c.Len() - 1, c.Len()} {
			for cat := -1; cat < 4; cat++ {
				best, is := c.Best(lo, hi, cat)
				said += fmt.Sprint(" ", best, is)
			}
		}
	}
	return said
}

// dice throws.
type dice struct{ n uint64 }

func (d *dice) of(k int) int {
	d.n = d.n*6364136223846793005 + 1442695040888963407
	return int(d.n>>33) % k
}

// pick throws for one of l.
func pick[T any](d *dice, l ...T) T {
	return l[d.of(len(l))]
}

// table throws one that is right. Its cuts are where texts of text have scalars.
func (d *dice) table(states, labels int) api.Table {
	t := api.Table{Cuts: []int{0}, Letters: []int{0}}
	letters := 1
	for _, cut := range []int{1, 'a', 'b', 0xe9, 0xea, api.Bad, api.Bad + 1, 0x1f600, api.Last} {
		if d.of(2) == 0 {
			letter := d.of(min(letters+1, 4))
			letters = max(letters, letter+1)
			t.Cuts, t.Letters = append(t.Cuts, cut), append(t.Letters, letter)
		}
	}
	t.B.Next, t.F.Next = d.next(1+d.of(states), letters), d.next(1+d.of(states), letters)
	most := 0
	for range t.B.Next {
		out := d.of(labels)
		most = max(most, out)
		t.B.Out = append(t.B.Out, out)
	}
	for range t.F.Next {
		var vecs []api.Vec
		for range most + 1 {
			vecs = append(vecs, api.Vec{d.of(3), pick(d, api.Inf, d.of(api.MaxW)), pick(d, api.Inf-d.of(3), 0)})
		}
		t.F.Emit = append(t.F.Emit, vecs)
	}
	return t
}

// next throws where states lead to.
func (d *dice) next(states, letters int) [][]int {
	var next [][]int
	for range states {
		var row []int
		for range letters {
			row = append(row, d.of(states))
		}
		next = append(next, row)
	}
	return next
}

// piece is bytes that are the same scalars whatever stands beside them, as long as that begins like a piece.
type piece struct {
	bytes   string
	scalars []int
}

// pieces are scalars, from the least to the last one, and bytes that are none: fronts, and what goes on nothing.
func pieces() []piece {
	bad := func(many int) []int { return slices.Repeat([]int{api.Bad}, many) }
	return []piece{
		{"\x00", []int{0}}, {"a", []int{'a'}}, {"b", []int{'b'}}, {"\x7f", []int{0x7f}}, {"\xc2\x80", []int{0x80}},
		{"\u00e9", []int{0xe9}}, {"\u07ff", []int{0x7ff}}, {"\u0800", []int{0x800}}, {"\ud7ff", []int{0xd7ff}}, {"\ue000", []int{0xe000}},
		{"\ufffd", bad(1)}, {"\uffff", []int{0xffff}}, {"\U0001f600", []int{0x1f600}}, {"\U0010ffff", []int{api.Last}},
		{"\xff", bad(1)}, {"\xff\x80", bad(2)}, {"\xc3", bad(1)}, {"\xe2\x82", bad(1)}, {"\xf0\x9f\x98", bad(1)}, {"\xf0", bad(1)},
		{"\xc0\x80", bad(2)}, {"\xed\xa0\x80", bad(3)}, {"\xf4\x90", bad(2)}, {"\xe0\x9f", bad(2)}, {"\xf5", bad(1)},
	}
}

// text throws one of so many pieces, and tells its scalars.
func (d *dice) text(many int) (string, []int) {
	var s string
	var scalars []int
	for range many {
		p := pick(d, pieces()...)
		s, scalars = s+p.bytes, append(scalars, p.scalars...)
	}
	return s, scalars
}
