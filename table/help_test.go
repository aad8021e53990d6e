package table

import (
	"encoding/binary"
	"fmt"
	"math"
	"slices"
	"testing"

	"hyphen/api"
)

// one is a table of one state and one letter.
func one() api.Table {
	return api.Table{
		Cuts: []int{0}, Letters: []int{0},
		B: api.Back{Next: [][]int{{0}}, Out: []int{0}},
		F: api.Fwd{Next: [][]int{{0}}, Emit: [][]api.Vec{{{1, 2, api.Inf}}}},
	}
}

// many is a table of three letters, three states of the one kind and two of the other, three labels.
func many() api.Table {
	return api.Table{
		Cuts: []int{0, 97, 98, 101, 0xe000}, Letters: []int{0, 1, 0, 2, 1},
		B: api.Back{Next: [][]int{{0, 1, 2}, {1, 1, 0}, {2, 0, 0}}, Out: []int{0, 2, 1}},
		F: api.Fwd{
			Next: [][]int{{0, 1, 0}, {1, 1, 0}},
			Emit: [][]api.Vec{{{5, 0, api.Inf}, {api.Inf, 1, 2}, {0, 0, 0}}, {{3, 4, 5}, {6, 7, 8}, {api.Inf - 1, api.Inf, 9}}},
		},
	}
}

// wild is numbers that fit nowhere, and some that do.
func wild() []int {
	return []int{math.MinInt, -api.Inf, -2, -1, 0, 1, 2, 3, 4, 63, 97, 100, mostItems - 1, mostItems, mostItems + 1, api.Last, api.Last + 1, 1 << 31, 1 << 32, api.Inf - 1, api.Inf, api.Inf + 1, math.MaxInt}
}

// copied is t, in memory of its own.
func copied(t api.Table) api.Table {
	u := api.Table{Cuts: slices.Clone(t.Cuts), Letters: slices.Clone(t.Letters)}
	u.B.Next, u.B.Out = slices.Clone(t.B.Next), slices.Clone(t.B.Out)
	u.F.Next, u.F.Emit = slices.Clone(t.F.Next), slices.Clone(t.F.Emit)
	for _, next := range [][][]int{u.B.Next, u.F.Next} {
		for state, row := range next {
			next[state] = slices.Clone(row)
		}
	}
	for state, vecs := range u.F.Emit {
		u.F.Emit[state] = slices.Clone(vecs)
	}
	return u
}

// rows tells all lists of numbers of t: none of them twice.
func rows(t *api.Table) []*[]int {
	l := []*[]int{&t.Cuts, &t.Letters, &t.B.Out}
	for _, next := range [][][]int{t.B.Next, t.F.Next} {
		for state := range next {
			l = append(l, &next[state])
		}
	}
	return l
}

// isEmpty tells whether t has its zero value.
func isEmpty(t api.Table) bool {
	return len(t.Cuts)+len(t.Letters)+len(t.B.Next)+len(t.B.Out)+len(t.F.Next)+len(t.F.Emit) == 0
}

// rightly tells, by the words of chapter 12 alone, what Right must tell.
func rightly(t api.Table) bool {
	sizes := []int{len(t.Cuts), len(t.Letters), len(t.B.Next), len(t.B.Out), len(t.F.Next), len(t.F.Emit)}
	for _, row := range slices.Concat(t.B.Next, t.F.Next) {
		sizes = append(sizes, len(row))
	}
	for _, vecs := range t.F.Emit {
		sizes = append(sizes, len(vecs))
	}
	if slices.Max(sizes) > 100000 || slices.Min(sizes[:6]) < 1 {
		return false
	}
	met := map[int]int{}
	for i, cut := range t.Cuts {
		if i == 0 && cut != 0 || i > 0 && cut <= t.Cuts[i-1] || cut > 0x10ffff || len(t.Letters) != len(t.Cuts) {
			return false
		}
		if _, is := met[t.Letters[i]]; !is {
			met[t.Letters[i]] = len(met)
		}
		if met[t.Letters[i]] != t.Letters[i] {
			return false
		}
	}
	return leadsRightly(t.B.Next, len(met)) && leadsRightly(t.F.Next, len(met)) && saysRightly(t)
}

// leadsRightly tells whether each state leads, by as many letters, to states.
func leadsRightly(next [][]int, letters int) bool {
	for _, row := range next {
		for _, to := range row {
			if to < 0 || to >= len(next) {
				return false
			}
		}
		if len(row) != letters {
			return false
		}
	}
	return true
}

// saysRightly tells whether what states say fits.
func saysRightly(t api.Table) bool {
	if len(t.B.Out) != len(t.B.Next) || len(t.F.Emit) != len(t.F.Next) || slices.Min(t.B.Out) < 0 {
		return false
	}
	for _, vecs := range t.F.Emit {
		if len(vecs)-1 != slices.Max(t.B.Out) {
			return false
		}
		for _, v := range vecs {
			if slices.Min(v[:]) < 0 || slices.Max(v[:]) > 1<<60 {
				return false
			}
		}
	}
	return true
}

// told writes t as numbers, by the words of chapter 12 alone; all but the sum.
func told(t api.Table) []int {
	list := func(l []int) []int { return append([]int{len(l)}, l...) }
	lists := func(next [][]int) []int {
		l := []int{len(next)}
		for _, row := range next {
			l = append(l, list(row)...)
		}
		return l
	}
	l := slices.Concat(list(t.Cuts), list(t.Letters), lists(t.B.Next), list(t.B.Out), lists(t.F.Next), []int{len(t.F.Emit)})
	for _, vecs := range t.F.Emit {
		l = append(l, len(vecs))
		for _, v := range vecs {
			l = append(l, v[0], v[1], v[2])
		}
	}
	return l
}

// bytesOf writes numbers as bytes.
func bytesOf(l []int) []byte {
	var b []byte
	for _, n := range l {
		b = binary.BigEndian.AppendUint64(b, uint64(n))
	}
	return b
}

// summed tells the sum of b, by the words of chapter 12 alone.
func summed(b []byte) int {
	return summedOn(1, b)
}

// summedOn goes on with a sum.
func summedOn(sum int, b []byte) int {
	for _, c := range b {
		sum = (sum*31 + int(c)) % 1000003
	}
	return sum
}

// sealed is b, and the sum for it.
func sealed(b []byte) []byte {
	return binary.BigEndian.AppendUint64(slices.Clone(b), uint64(summed(b)))
}

// plainly saves t by the words of chapter 12 alone, whatever it is.
func plainly(t api.Table) []byte {
	return sealed(bytesOf(told(t)))
}

// there holds Save and Load of one that is right (P1202, P1203).
func there(t *testing.T, x api.Table) {
	t.Helper()
	b := Save(x)
	if want := plainly(x); !slices.Equal(b, want) {
		t.Fatalf("P1202: Save of %v: %x, not %x", x, b, want)
	}
	y, is := Load(b)
	if !is || fmt.Sprint(y) != fmt.Sprint(x) {
		t.Fatalf("P1203: Load of what was saved of %v: %v, %v", x, y, is)
	}
	if again := Save(y); !slices.Equal(again, b) {
		t.Fatalf("P1203: %v is saved as %x, then as %x", x, b, again)
	}
}

// refused holds Load of bytes that are Save of none (P1202, P4).
func refused(t *testing.T, b []byte, why string) {
	t.Helper()
	was := slices.Clone(b)
	if x, is := Load(b); is || !isEmpty(x) {
		t.Errorf("P1202: %s: Load of %x: %v, %v", why, b, x, is)
	}
	if !slices.Equal(b, was) {
		t.Errorf("P2: %s: %x left %x", why, was, b)
	}
}

// dice throws.
type dice struct{ n uint64 }

func (d *dice) of(k int) int {
	d.n = d.n*6364136223846793005 + 1442695040888963407
	return int(d.n>>33) % k
}

// pick throws for one of l.
func pick[T any](d *dice, l ...T) T {
	return l[d.of(len(l))]
}

// table throws one that is right.
func (d *dice) table(states, labels int) api.Table {
	var t api.Table
	letters, at := 0, 0
	for range 1 + d.of(7) {
		letter := d.of(min(letters+1, 4))
		letters = max(letters, letter+1)
		t.Cuts, t.Letters = append(t.Cuts, at), append(t.Letters, letter)
		at += 1 + d.of(api.Last/8)
	}
	t.B.Next, t.F.Next = d.next(1+d.of(states), letters), d.next(1+d.of(states), letters)
	most := 0
	for range t.B.Next {
		out := d.of(labels)
		most = max(most, out)
		t.B.Out = append(t.B.Out, out)
	}
	for range t.F.Next {
		var vecs []api.Vec
		for range most + 1 {
			vecs = append(vecs, api.Vec{d.of(9), pick(d, api.Inf, d.of(api.MaxW)), pick(d, api.Inf-d.of(3), 0)})
		}
		t.F.Emit = append(t.F.Emit, vecs)
	}
	return t
}

// next throws where states lead to.
func (d *dice) next(states, letters int) [][]int {
	var next [][]int
	for range states {
		var row []int
		for range letters {
			row = append(row, d.of(states))
		}
		next = append(next, row)
	}
	return next
}
