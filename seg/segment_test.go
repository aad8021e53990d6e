package seg

import (
	"fmt"
	"slices"
	"strings"
	"testing"

	"hyphen/api"
	"hyphen/table"
)

// Known rows: no bytes, one scalar, several (P1301).
func TestKnownRows(t *testing.T) {
	told(t, pairs(), "", []api.Vec{{0, api.Inf, 7}})
	told(t, pairs(), "a", []api.Vec{{1, api.Inf - 1, 7}, {10, api.Inf, 0}})
	told(t, pairs(), "a b", []api.Vec{{1, api.Inf - 1, 7}, {12, api.Inf - 2, 0}, {21, api.Inf - 1, 0}, {10, api.Inf, 0}})
	told(t, pairs(), "  ", pairsRow(2, 2))
	told(t, pairs(), "ab c", pairsRow(1, 1, 2, 1))
	told(t, many(), "", []api.Vec{{5, 0, api.Inf}})
	// Back: e leads from 0 to 2, a from 2 to 0, b from 0 to 0; Out 0, 1, 0, 0. Forward: b to 0, a to 1, e to 0.
	told(t, many(), "bae", []api.Vec{{5, 0, api.Inf}, {5, 0, api.Inf}, {6, 7, 8}, {5, 0, api.Inf}})
	// a leads back from 0 to 1, from 1 to 1; forward to 1, and from 1 to 1.
	told(t, many(), "aa", []api.Vec{{0, 0, 0}, {api.Inf - 1, api.Inf, 9}, {3, 4, 5}})
}

// Bytes that are no scalars: each is FFFD, at a text's begin, within it, at its end (P1301).
func TestBrokenBytes(t *testing.T) {
	for _, x := range []struct {
		s     string
		kinds []int
	}{
		{"\xff", []int{3}},
		{"\xff\xff", []int{3, 3}},
		{"\x80", []int{3}},
		{"\xe2\x82", []int{3}},
		{"\xe2\x82a", []int{3, 1}},
		{"\xe2\x82 ", []int{3, 2}},
		{"a\xe2\x82 ", []int{1, 3, 2}},
		{"a\xe2\x82", []int{1, 3}},
		{" \xc3", []int{2, 3}},
		{"\xf0\x9f\x98\xf0\x9f\x98\x80", []int{3, 1}},
		{"\xed\xa0\x80", []int{3, 3, 3}},
		{"a\xc0\x80b", []int{1, 3, 3, 1}},
		{"\ufffd \ufffe\ufffc", []int{3, 2, 1, 1}}, // that is FFFD, too, and those are not
		{"\u00e9\u20ac\U0001f600", []int{1, 1, 1}}, // a place a scalar, not a byte
	} {
		told(t, pairs(), x.s, pairsRow(x.kinds...))
	}
}

// Where letters begin and end, numbers on both sides of each cut, 0 and Last (P1301).
func TestCuts(t *testing.T) {
	for _, n := range []int{0, 96, 97, 98, 99, 100, 101, 102, 0xd7ff, 0xe000, 0xffff, 0x10000, api.Last} {
		told(t, many(), string(rune(n)), plainly(many(), []int{n}))
		told(t, many(), "a"+string(rune(n))+"e", plainly(many(), []int{'a', n, 'e'}))
	}
	last := many()
	last.Cuts[4] = api.Last
	for _, n := range []int{0xe000, api.Last - 1, api.Last} {
		told(t, last, string(rune(n)), plainly(last, []int{n}))
	}
}

// Scalars of one letter tell the same (P1301).
func TestScalarsOfOneLetter(t *testing.T) {
	of := [][]rune{{0, 'b', 'c', 'd', ' '}, {'a', 0xe000, 0xffff, api.Last}, {'e', 'f', 'z', 0x7ff, 0xd7ff}}
	d := &dice{3}
	for range 1000 {
		var one, other []rune
		for range d.of(9) {
			letter := d.of(len(of))
			one, other = append(one, of[letter][0]), append(other, pick(d, of[letter]...))
		}
		want, e := Segment(many(), string(one))
		if e != api.OK || len(want) != len(one)+1 {
			t.Fatalf("P1301: Segment of %q: %s, %v", string(one), said(want), e)
		}
		told(t, many(), string(other), want)
	}
	// A table of one letter tells as much of any.
	single := many()
	single.Cuts, single.Letters = []int{0}, []int{0}
	single.B, single.F = api.Back{Next: [][]int{{0}}, Out: []int{0}}, api.Fwd{Next: [][]int{{1}, {1}}, Emit: [][]api.Vec{{{1, 2, 3}}, {{4, 5, api.Inf}}}}
	told(t, single, "a \xff\u00e9", []api.Vec{{1, 2, 3}, {4, 5, api.Inf}, {4, 5, api.Inf}, {4, 5, api.Inf}, {4, 5, api.Inf}})
}

// Texts of up to 4000 bytes, however many scalars these are, and of more (P1301).
func TestLongTexts(t *testing.T) {
	for _, x := range []struct {
		scalar      string
		kind, times int
	}{
		{"a", 1, 0}, {"a", 1, 1}, {"a", 1, 3999}, {"a", 1, 4000}, {" ", 2, 4000}, {"\xff", 3, 4000},
		{"\u00e9", 1, 2000}, {"\u20ac", 1, 1333}, {"\U0001f600", 1, 1000},
	} {
		told(t, pairs(), strings.Repeat(x.scalar, x.times), pairsRow(slices.Repeat([]int{x.kind}, x.times)...))
	}
	for _, s := range []string{
		strings.Repeat("a", 4001), strings.Repeat("a", 4002), strings.Repeat("\xff", 4001), strings.Repeat(" ", 100000),
		strings.Repeat("\u00e9", 2000) + "a", strings.Repeat("\u00e9", 2001), strings.Repeat("\u20ac", 1334), strings.Repeat("\U0001f600", 1001),
		strings.Repeat("\U0001f600", 1000) + "\xff", strings.Repeat("a", 4000) + "\x00",
	} {
		refused(t, pairs(), s, api.TooLong, fmt.Sprintf("%d bytes", len(s)))
	}
}

// turn turns one thing of a table that Right asks.
type turn struct {
	why string
	by  func(x *api.Table)
}

// turns are of many: no list, a list of another length, a number that does not fit.
func turns() []turn {
	return []turn{
		{"all is none", func(x *api.Table) { *x = api.Table{} }},
		{"no cuts", func(x *api.Table) { x.Cuts = nil }},
		{"no letters", func(x *api.Table) { x.Letters = nil }},
		{"neither", func(x *api.Table) { x.Cuts, x.Letters = nil, nil }},
		{"the first cut is 1", func(x *api.Table) { x.Cuts[0] = 1 }},
		{"the first cut is -1", func(x *api.Table) { x.Cuts[0] = -1 }},
		{"a cut twice", func(x *api.Table) { x.Cuts[2] = x.Cuts[1] }},
		{"cuts that fall", func(x *api.Table) { x.Cuts[2] = x.Cuts[1] - 1 }},
		{"a cut above Last", func(x *api.Table) { x.Cuts[4] = api.Last + 1 }},
		{"a cut fewer", func(x *api.Table) { x.Cuts = x.Cuts[:4] }},
		{"a letter fewer", func(x *api.Table) { x.Letters = x.Letters[:4] }},
		{"a letter more", func(x *api.Table) { x.Letters = append(x.Letters, 0) }},
		{"letters from 1 on", func(x *api.Table) { x.Letters[0] = 1 }},
		{"a letter left out", func(x *api.Table) { x.Letters = []int{0, 2, 0, 1, 2} }},
		{"a letter below 0", func(x *api.Table) { x.Letters[2] = -1 }},
		{"a letter too many", func(x *api.Table) { x.Letters[4] = 3 }},
		{"a letter too few", func(x *api.Table) { x.Letters[3] = 1 }},
		{"no states back", func(x *api.Table) { x.B = api.Back{} }},
		{"no states on", func(x *api.Table) { x.F = api.Fwd{} }},
		{"a way back short", func(x *api.Table) { x.B.Next[1] = x.B.Next[1][:2] }},
		{"a way back long", func(x *api.Table) { x.B.Next[1] = append(x.B.Next[1], 0) }},
		{"a way back to -1", func(x *api.Table) { x.B.Next[2][1] = -1 }},
		{"a way back to no state", func(x *api.Table) { x.B.Next[2][1] = 3 }},
		{"a way on short", func(x *api.Table) { x.F.Next[1] = x.F.Next[1][:2] }},
		{"a way on long", func(x *api.Table) { x.F.Next[1] = append(x.F.Next[1], 0) }},
		{"a way on to -1", func(x *api.Table) { x.F.Next[1][0] = -1 }},
		{"a way on to no state", func(x *api.Table) { x.F.Next[1][0] = 2 }},
		{"an Out fewer", func(x *api.Table) { x.B.Out = x.B.Out[:2] }},
		{"an Out more", func(x *api.Table) { x.B.Out = append(x.B.Out, 0) }},
		{"an Out below 0", func(x *api.Table) { x.B.Out[0] = -1 }},
		{"an Out too great", func(x *api.Table) { x.B.Out[0] = 3 }},
		{"the greatest Out too small", func(x *api.Table) { x.B.Out[1] = 1 }},
		{"an Emit fewer", func(x *api.Table) { x.F.Emit = x.F.Emit[:1] }},
		{"an Emit more", func(x *api.Table) { x.F.Emit = append(x.F.Emit, slices.Clone(x.F.Emit[0])) }},
		{"an Emit short", func(x *api.Table) { x.F.Emit[1] = x.F.Emit[1][:2] }},
		{"an Emit long", func(x *api.Table) { x.F.Emit[1] = append(x.F.Emit[1], api.Vec{}) }},
		{"a cost below 0", func(x *api.Table) { x.F.Emit[1][2][0] = -1 }},
		{"a cost above Inf", func(x *api.Table) { x.F.Emit[1][2][1] = api.Inf + 1 }},
		{"too many cuts", func(x *api.Table) { *x = long(100001) }},
	}
}

// long is a table of so many cuts, of one letter.
func long(size int) api.Table {
	x, _ := priced(api.Vec{1, 2, 3})
	x.Cuts, x.Letters = make([]int, size), make([]int, size)
	for at := range x.Cuts {
		x.Cuts[at] = at
	}
	return x
}

// What is no table, each thing that Right asks turned by itself; that is told ahead of a text that is too long (P1301, P1302, P6).
func TestNoTable(t *testing.T) {
	for _, x := range turns() {
		y := many()
		x.by(&y)
		for _, s := range []string{"", "a", "bae \xff\U0010ffff", strings.Repeat("a", 4000), strings.Repeat("a", 4001), strings.Repeat("e", 9000)} {
			refused(t, y, s, api.BadTable, x.why)
		}
	}
	told(t, long(100000), "aa", []api.Vec{{1, 2, 3}, {1, 2, 3}, {1, 2, 3}})
	refused(t, many(), strings.Repeat("a", 4001), api.TooLong, "a table, as it was")
}

// Thrown tables over thrown texts, held against the words alone; spoilt ones are refused as Right refuses them (P1301, T5).
func TestThrownRows(t *testing.T) {
	d := &dice{29}
	spoilt := 0
	for range 10000 {
		x := d.table(4, 4)
		s, scalars := d.text(d.of(9))
		if d.of(3) == 0 {
			d.spoil(&x)
		}
		if table.Right(x) {
			told(t, x, s, plainly(x, scalars))
		} else {
			spoilt++
			refused(t, x, s, api.BadTable, fmt.Sprint(x))
		}
	}
	if spoilt < 1000 {
		t.Errorf("P1301: only %d were spoilt", spoilt)
	}
}

// spoil turns a number of x.
func (d *dice) spoil(x *api.Table) {
	l := [][]int{x.Cuts, x.Letters, x.B.Out, x.F.Emit[0][0][:]}
	l = append(append(l, x.B.Next...), x.F.Next...)
	row := pick(d, l...)
	row[d.of(len(row))] = pick(d, wild()...)
}

// Each piece alone, at the beginning, within, and at the end (P1301).
func TestPieces(t *testing.T) {
	d := &dice{31}
	for range 20 {
		x := d.table(4, 4)
		for _, p := range pieces() {
			told(t, x, p.bytes, plainly(x, p.scalars))
			told(t, x, p.bytes+"a", plainly(x, append(slices.Clone(p.scalars), 'a')))
			told(t, x, "a"+p.bytes, plainly(x, append([]int{'a'}, p.scalars...)))
			told(t, x, "b"+p.bytes+"b", plainly(x, append(append([]int{'b'}, p.scalars...), 'b')))
		}
	}
}
