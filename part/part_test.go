package part

import (
	"fmt"
	"math"
	"slices"
	"testing"

	"hyphen/api"
	"hyphen/set"
)

// of makes ranges of numbers, two by two.
func of(n ...int) []api.Range {
	var l []api.Range
	for i := 0; i < len(n); i += 2 {
		l = append(l, api.Range{Lo: n[i], Hi: n[i+1]})
	}
	return l
}

// sets gathers sets.
func sets(l ...[]api.Range) [][]api.Range { return l }

// rows reads "01 10" as rows of bools.
func rows(words ...string) [][]bool {
	var all [][]bool
	for _, w := range words {
		var row []bool
		for _, c := range w {
			row = append(row, c == '1')
		}
		all = append(all, row)
	}
	return all
}

// parted is what the calls have to tell of some sets.
type parted struct {
	sets          [][]api.Range
	cuts, letters []int
	count         int
	in            [][]bool
}

// sameRows tells whether both are the same rows.
func sameRows(a, b [][]bool) bool {
	return slices.EqualFunc(a, b, slices.Equal[[]bool])
}

// holds holds what the calls tell of c.sets against c.
func (c parted) holds(t *testing.T) {
	t.Helper()
	cuts, letters := Cuts(c.sets)
	if !slices.Equal(cuts, c.cuts) || !slices.Equal(letters, c.letters) {
		t.Errorf("P401: Cuts %v: %v, %v, not %v, %v", c.sets, cuts, letters, c.cuts, c.letters)
	}
	if got := Count(c.letters); got != c.count {
		t.Errorf("P401: Count %v: %d, not %d", c.letters, got, c.count)
	}
	if got := In(c.sets, c.cuts, c.letters); !sameRows(got, c.in) {
		t.Errorf("P401: In %v: %v, not %v", c.sets, got, c.in)
	}
}

func TestKnown(t *testing.T) {
	const last = api.Last
	for _, c := range []parted{
		// No sets; a set of nothing; a set of all.
		{nil, []int{0}, []int{0}, 1, nil},
		{sets(), []int{0}, []int{0}, 1, nil},
		{sets(nil), []int{0}, []int{0}, 1, rows("0")},
		{sets(of()), []int{0}, []int{0}, 1, rows("0")},
		{sets(nil, nil, nil), []int{0}, []int{0}, 1, rows("0", "0", "0")},
		{sets(of(0, last)), []int{0}, []int{0}, 1, rows("1")},
		{sets(of(0, last), of(0, last)), []int{0}, []int{0}, 1, rows("1", "1")},
		{sets(nil, of(0, last), nil), []int{0}, []int{0}, 1, rows("0", "1", "0")},
		{sets(nil, of(5, 9), of(0, last)), []int{0, 5, 10}, []int{0, 1, 0}, 2, rows("00", "01", "11")},
		// One set; 0 and Last as ends.
		{sets(of('a', 'z')), []int{0, 'a', '{'}, []int{0, 1, 0}, 2, rows("01")},
		{sets(of(7, 7)), []int{0, 7, 8}, []int{0, 1, 0}, 2, rows("01")},
		{sets(of(0, 0)), []int{0, 1}, []int{0, 1}, 2, rows("10")},
		{sets(of(0, 9)), []int{0, 10}, []int{0, 1}, 2, rows("10")},
		{sets(of(1, last)), []int{0, 1}, []int{0, 1}, 2, rows("01")},
		{sets(of(last, last)), []int{0, last}, []int{0, 1}, 2, rows("01")},
		{sets(of(0, last-1)), []int{0, last}, []int{0, 1}, 2, rows("10")},
		{sets(of(0, 0, last, last)), []int{0, 1, last}, []int{0, 1, 0}, 2, rows("10")},
		{sets(of(1, last-1)), []int{0, 1, last}, []int{0, 1, 0}, 2, rows("01")},
		{sets(of(3, 4, 6, 6, 9, last)), []int{0, 3, 5, 6, 7, 9}, []int{0, 1, 0, 1, 0, 1}, 2, rows("01")},
		{sets(of(0xd800, 0xdfff)), []int{0, 0xd800, 0xe000}, []int{0, 1, 0}, 2, rows("01")},
		// The same; overlapping; one within the other; touching; apart.
		{sets(of(5, 9), of(5, 9)), []int{0, 5, 10}, []int{0, 1, 0}, 2, rows("01", "01")},
		{sets(of(5, 9, 20, 29), of(5, 9, 20, 29)), []int{0, 5, 10, 20, 30}, []int{0, 1, 0, 1, 0}, 2, rows("01", "01")},
		{sets(of(5, 9), of(8, 20)), []int{0, 5, 8, 10, 21}, []int{0, 1, 2, 3, 0}, 4, rows("0110", "0011")},
		{sets(of(8, 20), of(5, 9)), []int{0, 5, 8, 10, 21}, []int{0, 1, 2, 3, 0}, 4, rows("0011", "0110")},
		{sets(of(5, 9), of(9, 20)), []int{0, 5, 9, 10, 21}, []int{0, 1, 2, 3, 0}, 4, rows("0110", "0011")},
		{sets(of(0, 20), of(5, 9)), []int{0, 5, 10, 21}, []int{0, 1, 0, 2}, 3, rows("110", "010")},
		{sets(of(5, 20), of(5, 9)), []int{0, 5, 10, 21}, []int{0, 1, 2, 0}, 3, rows("011", "010")},
		{sets(of(5, 20), of(9, 20)), []int{0, 5, 9, 21}, []int{0, 1, 2, 0}, 3, rows("011", "001")},
		{sets(of(5, 9), of(10, 14)), []int{0, 5, 10, 15}, []int{0, 1, 2, 0}, 3, rows("010", "001")},
		{sets(of(10, 14), of(5, 9)), []int{0, 5, 10, 15}, []int{0, 1, 2, 0}, 3, rows("001", "010")},
		{sets(of(5, 9), of(20, 29)), []int{0, 5, 10, 20, 30}, []int{0, 1, 0, 2, 0}, 3, rows("010", "001")},
		{sets(of(5, 9), of(11, 14)), []int{0, 5, 10, 11, 15}, []int{0, 1, 0, 2, 0}, 3, rows("010", "001")},
		// A set, and all but it.
		{sets(of(5, 9), set.Not(of(5, 9))), []int{0, 5, 10}, []int{0, 1, 0}, 2, rows("01", "10")},
		{sets(of(0, 9), of(10, last)), []int{0, 10}, []int{0, 1}, 2, rows("10", "01")},
		{sets(of(0, last-1), of(last, last)), []int{0, last}, []int{0, 1}, 2, rows("10", "01")},
		{sets(nil, of(0, last)), []int{0}, []int{0}, 1, rows("0", "1")},
		// A letter that comes again, far on and behind others; letters by when they come, not by sets.
		{
			sets(of(20, 29, 50, 59), of(10, 14, 25, 59)),
			[]int{0, 10, 15, 20, 25, 30, 50, 60}, []int{0, 1, 0, 2, 3, 1, 3, 0}, 4, rows("0011", "0101"),
		},
		{
			sets(of(0, 1, 4, 5), of(1, 2, 5, 6), of(5, 5)),
			[]int{0, 1, 2, 3, 4, 5, 6, 7}, []int{0, 1, 2, 3, 0, 4, 2, 3}, 5, rows("11001", "01101", "00001"),
		},
	} {
		c.holds(t)
	}
}

func TestLetter(t *testing.T) {
	c, l := Cuts(sets(of(5, 9, 20, 30), of(30, api.Last-1)))
	for n, want := range map[int]int{
		0: 0, 1: 0, 4: 0, 5: 1, 7: 1, 9: 1, 10: 0, 19: 0, 20: 1, 29: 1, 30: 2, 31: 3, 32: 3, 0xd800: 3, 0xdfff: 3, 0xffff: 3, 0x10000: 3,
		api.Last - 1: 3, api.Last: 0,
	} {
		if got := Letter(c, l, n); got != want {
			t.Errorf("P401: Letter %d: %d, not %d", n, got, want)
		}
	}
	for _, n := range []int{0, 1, 'a', 0xd800, api.Last - 1, api.Last} {
		c, l = Cuts(nil)
		if got := Letter(c, l, n); got != 0 {
			t.Errorf("P401: of no sets: Letter %d: %d", n, got)
		}
		c, l = Cuts(sets(of(n, n)))
		if got, ahead := Letter(c, l, n), Letter(c, l, max(n-1, 0)); n > 0 && (got != 1 || ahead != 0) || n == 0 && got != 0 {
			t.Errorf("P401: of %d alone: Letter %d, of the one ahead %d", n, got, ahead)
		}
	}
}

// Letters are numbered from 0 on: there are as many as one more than the greatest.
func TestCount(t *testing.T) {
	for _, c := range []struct {
		letters []int
		want    int
	}{
		{[]int{0}, 1},
		{[]int{0, 1}, 2},
		{[]int{0, 1, 0}, 2},
		{[]int{0, 1, 0, 1, 0, 1}, 2},
		{[]int{0, 1, 2, 0}, 3},
		{[]int{0, 1, 0, 2, 1, 3, 2, 0}, 4},
		{[]int{0, 1, 2, 3, 4, 5, 6, 7, 8, 9, 10, 11, 12, 0}, 13},
	} {
		if got := Count(c.letters); got != c.want {
			t.Errorf("P401: Count %v: %d, not %d", c.letters, got, c.want)
		}
	}
}

// within tells in the plainest words whether n is in l.
func within(l []api.Range, n int) bool {
	return slices.ContainsFunc(l, func(r api.Range) bool { return r.Lo <= n && n <= r.Hi })
}

// where tells of each of sets whether n is in it.
func where(sets [][]api.Range, n int) [api.MaxSets]bool {
	var is [api.MaxSets]bool
	for i, l := range sets {
		is[i] = within(l, n)
	}
	return is
}

// plainly parts the numbers from 0 to Last by going through those of asked, rising; of others it holds that each is alike to the one ahead.
func plainly(sets [][]api.Range, asked []int) parted {
	p := parted{sets: sets, in: make([][]bool, len(sets))}
	met := map[[api.MaxSets]bool]int{}
	for _, n := range asked {
		is := where(sets, n)
		if n > 0 && is == where(sets, n-1) {
			continue
		}
		letter, was := met[is]
		if !was {
			letter = len(met)
			met[is] = letter
			for i := range sets {
				p.in[i] = append(p.in[i], is[i])
			}
		}
		p.cuts, p.letters = append(p.cuts, n), append(p.letters, letter)
	}
	p.count = len(met)
	return p
}

// tells holds what Letter tells of each of asked against sets, read in the plainest words.
func tells(t *testing.T, sets [][]api.Range, asked []int) {
	t.Helper()
	cuts, letters := Cuts(sets)
	in := In(sets, cuts, letters)
	met := map[[api.MaxSets]bool]int{}
	for _, n := range asked {
		is, letter := where(sets, n), Letter(cuts, letters, n)
		if was, known := met[is]; known && was != letter || !known && letter != len(met) {
			t.Fatalf("P401: %v: Letter %d: %d; of those ahead %v", sets, n, letter, met)
		}
		met[is] = letter
		for i := range sets {
			if in[i][letter] != is[i] {
				t.Fatalf("P401: %v: In: %v, and %d, of letter %d", sets, in, n, letter)
			}
		}
	}
	if len(met) != Count(letters) {
		t.Fatalf("P401: %v: Count %d, not %d", sets, Count(letters), len(met))
	}
}

// upTo: 0 to n.
func upTo(n int) []int {
	var l []int
	for i := range n + 1 {
		l = append(l, i)
	}
	return l
}

// few tells the sets of numbers below 6, as Right ranges; 5 stands for all up to Last.
func few() [][]api.Range {
	var all [][]api.Range
	for bits := range 1 << 6 {
		var l []api.Range
		for n := range 6 {
			if bits>>n&1 == 1 {
				l = append(l, api.Range{Lo: n, Hi: n})
			}
		}
		if bits>>5 == 1 {
			l[len(l)-1].Hi = api.Last
		}
		all = append(all, set.Norm(l))
	}
	return all
}

// turned: each number as far from Last as it was from 0, and so the last range first.
func turned(l []api.Range) []api.Range {
	var m []api.Range
	for _, r := range slices.Backward(l) {
		m = append(m, api.Range{Lo: api.Last - r.Hi, Hi: api.Last - r.Lo})
	}
	return m
}

// All pairs of small sets, from 0 on and up to Last: what is told is what the plainest words have.
func TestAllSmall(t *testing.T) {
	low := upTo(9)
	high := append([]int{0}, upTo(9)...)
	for i := range high[1:] {
		high[i+1] += api.Last - 9
	}
	all := few()
	for _, a := range all {
		plainly(sets(a), low).holds(t)
		plainly(sets(turned(a)), high).holds(t)
		for _, b := range all {
			two := sets(a, b)
			plainly(two, low).holds(t)
			tells(t, two, low)
			two = sets(turned(a), turned(b))
			plainly(two, high).holds(t)
			tells(t, two, high)
		}
	}
}

// Sets by the dozen, thrown together out of small ones.
func TestMixed(t *testing.T) {
	all := few()
	for i := range 3000 {
		var some [][]api.Range
		for k := range i % (api.MaxSets + 1) {
			some = append(some, all[(i*31+k*k*17+k*i*7)%len(all)])
		}
		plainly(some, upTo(9)).holds(t)
		tells(t, some, upTo(9))
	}
}

// bit tells the numbers below 4096 that have that bit.
func bit(k int) []api.Range {
	var l []api.Range
	for n := range 1 << api.MaxSets {
		if n>>k&1 == 1 {
			l = append(l, api.Range{Lo: n, Hi: n})
		}
	}
	return set.Norm(l)
}

// Twelve sets, in every way together: as many letters as there can be.
func TestTwelve(t *testing.T) {
	const most = 1 << api.MaxSets
	var twelve [][]api.Range
	for k := range api.MaxSets {
		twelve = append(twelve, bit(k))
	}
	cuts, letters := Cuts(twelve)
	if !slices.Equal(cuts, upTo(most)) || !slices.Equal(letters, append(upTo(most-1), 0)) {
		t.Fatalf("P401: of twelve sets: %v, %v", cuts, letters)
	}
	if got := Count(letters); got != most {
		t.Errorf("P401: of twelve sets: Count %d", got)
	}
	in := In(twelve, cuts, letters)
	for n := range most {
		if got := Letter(cuts, letters, n); got != n {
			t.Fatalf("P401: of twelve sets: Letter %d: %d", n, got)
		}
		for k := range twelve {
			if len(in[k]) != most || in[k][n] != (n>>k&1 == 1) {
				t.Fatalf("P401: of twelve sets: In: set %d, letter %d", k, n)
			}
		}
	}
	for _, n := range []int{most, most + 1, 0xd800, api.Last} {
		if got := Letter(cuts, letters, n); got != 0 {
			t.Errorf("P401: of twelve sets: Letter %d: %d", n, got)
		}
	}
	// Twelve of one kind are as one is.
	parted{
		slices.Repeat(sets(of(5, 9)), api.MaxSets), []int{0, 5, 10}, []int{0, 1, 0}, 2, slices.Repeat(rows("01"), api.MaxSets),
	}.holds(t)
}

// Each number from 0 to Last, of sets that people would write.
func TestEveryNumber(t *testing.T) {
	letter := of('A', 'Z', 'a', 'z', 0xc0, 0xd6, 0xd8, 0xf6, 0xf8, 0x24f)
	vowel := of('A', 'A', 'E', 'E', 'I', 'I', 'O', 'O', 'U', 'U', 'a', 'a', 'e', 'e', 'i', 'i', 'o', 'o', 'u', 'u')
	some := sets(letter, vowel, of('0', '9'), of(' ', ' ', 0xa0, 0xa0, 0x2000, 0x200a), set.Not(of(0xd800, 0xdfff)), of(0x10000, api.Last))
	tells(t, some, upTo(api.Last))
	plainly(some, upTo(api.Last)).holds(t)
}

// Many ranges: parted in good time.
func TestMany(t *testing.T) {
	const many = 50000
	var a, b []api.Range
	for i := range many {
		a = append(a, api.Range{Lo: 20 * i, Hi: 20*i + 9})
		b = append(b, api.Range{Lo: 20*i + 5, Hi: 20*i + 14})
	}
	cuts, letters := Cuts(sets(a, b))
	for i := range many {
		for k := range 4 {
			if n := 20*i + 5*k; cuts[4*i+k] != n || letters[4*i+k] != k || Letter(cuts, letters, n+4) != k {
				t.Fatalf("P401: of many ranges: cut %d", n)
			}
		}
	}
	if len(cuts) != 4*many || len(letters) != 4*many || Count(letters) != 4 {
		t.Errorf("P401: of many ranges: %d cuts, %d letters", len(cuts), Count(letters))
	}
	if got := In(sets(a, b), cuts, letters); !sameRows(got, rows("1100", "0110")) {
		t.Errorf("P401: of many ranges: In: %v", got)
	}
}

// odd: lists of numbers that are no cuts, and no letters.
func odd() [][]int {
	return [][]int{
		nil, {}, {0}, {1}, {-1}, {5, 4, 3}, {0, 0, 0}, {0, 5, 10}, {0, 1, 0}, {0, 1, 2, 3}, {0, -1, 7, 1, math.MinInt},
		{math.MaxInt}, {math.MinInt}, {0, math.MaxInt}, {math.MaxInt, 0, math.MinInt}, {0, api.Last + 1}, {1 << 40, 1 << 33},
	}
}

// wrong: lists of sets that are no Right ones, or too many.
func wrong() [][][]api.Range {
	return [][][]api.Range{
		sets(of(5, 4)), sets(of(-3, 7)), sets(of(3, api.Last+9)), sets(of(4, 5, 1, 2)), sets(of(1, 1, 1, 1), of(1, 9, 2, 3, 0, 20)),
		sets(of(math.MinInt, math.MaxInt), of(math.MaxInt, math.MinInt)), sets(of(math.MaxInt, math.MaxInt, math.MinInt, math.MinInt)),
		sets(of(0, math.MaxInt, math.MinInt, -1, 5, 5)), sets(of(1, 2, 3, 4)), sets(of(-5, -2), of(api.Last+1, api.Last+1)),
		slices.Repeat(sets(of(5, 9)), 13), slices.Repeat(sets(of(5, 9), nil), 100),
	}
}

// Of what may not be handed in nothing is promised but an end, and that it stays as it was (P1, P2, P8).
func TestHandedInWhereItMayNotBe(t *testing.T) {
	lists, was := odd(), odd()
	all, were := append(wrong(), nil, sets(of(5, 9), nil)), append(wrong(), nil, sets(of(5, 9), nil))
	for i, a := range lists {
		Count(a)
		for j, b := range lists {
			for _, n := range []int{0, 3, -1, api.Last, api.Last + 1, math.MinInt, math.MaxInt} {
				Letter(a, b, n)
			}
			for k, l := range all {
				In(l, a, b)
				if fmt.Sprint(l) != fmt.Sprint(were[k]) {
					t.Errorf("P2: In left %v of %v", l, were[k])
				}
			}
			if !slices.Equal(a, was[i]) || !slices.Equal(b, was[j]) {
				t.Errorf("P2: %v, %v of %v, %v", a, b, was[i], was[j])
			}
		}
	}
	for k, l := range all {
		cuts, letters := Cuts(l)
		Count(letters)
		In(l, cuts, letters)
		if fmt.Sprint(l) != fmt.Sprint(were[k]) {
			t.Errorf("P2: Cuts left %v of %v", l, were[k])
		}
	}
	cuts, letters := Cuts(sets(of(5, 9)))
	for _, n := range []int{-1, api.Last + 1, math.MinInt, math.MaxInt, 1 << 32, -1<<32 + 6, 1<<32 + 6} {
		Letter(cuts, letters, n)
	}
}

// roomy is l with spare room behind, full of v.
func roomy[T any](l []T, v T) []T {
	return append(slices.Clone(l), v, v, v)[:len(l)]
}

// full is l with all its spare room.
func full[T any](l []T) []T {
	return l[:cap(l)]
}

// spoil writes v over all of l, its spare room too.
func spoil[T any](l []T, v T) {
	for i := range full(l) {
		full(l)[i] = v
	}
}

// What is handed in, its spare room too, stays as it was (P2).
func TestHandedInStays(t *testing.T) {
	hand := func() [][]api.Range {
		odd := api.Range{Lo: 3, Hi: -8}
		l := sets(roomy(of(20, 29), odd), roomy(of(5, 9, 25, 40), odd), roomy(nil, odd), roomy(of(0, api.Last), odd))
		return roomy(l, of(1, 1))
	}
	l, was := hand(), hand()
	cuts, letters := Cuts(l)
	c, m := roomy(cuts, -7), roomy(letters, 1)
	wasC, wasM := slices.Clone(full(c)), slices.Clone(full(m))
	Count(m)
	Letter(c, m, 27)
	In(l, c, m)
	if !slices.Equal(full(c), wasC) || !slices.Equal(full(m), wasM) {
		t.Errorf("P2: %v, %v of %v, %v", full(c), full(m), wasC, wasM)
	}
	for i := range was {
		if !slices.Equal(full(l[i]), full(was[i])) {
			t.Errorf("P2: %v of %v", full(l[i]), full(was[i]))
		}
	}
	if fmt.Sprint(full(l)) != fmt.Sprint(full(was)) {
		t.Errorf("P2: %v of %v", full(l), full(was))
	}
	// What lies in spare room is not read.
	parted{hand(), cuts, letters, Count(letters), In(was, cuts, letters)}.holds(t)
	if got := In(l, c, m); !sameRows(got, In(was, cuts, letters)) {
		t.Errorf("P401: In beside spare room: %v", got)
	}
	for _, n := range []int{0, 4, 5, 27, 41, api.Last} {
		if Count(m) != Count(letters) || Letter(c, m, n) != Letter(cuts, letters, n) {
			t.Errorf("P401: beside spare room: Count %d, Letter %d: %d", Count(m), n, Letter(c, m, n))
		}
	}
}

// What is answered is the asker's own, its spare room too, and no list of it shares any with another one; nothing is kept (P2, P3).
func TestAnswersAreNew(t *testing.T) {
	l := sets(of(5, 9), of(8, 20), of(5, 9), nil)
	wantC, wantL := []int{0, 5, 8, 10, 21}, []int{0, 1, 2, 3, 0}
	wantIn := rows("0110", "0011", "0110", "0000")
	cuts, letters := Cuts(l)
	spoil(cuts, -9)
	if !slices.Equal(letters, wantL) {
		t.Errorf("P2: spoilt cuts left %v", letters)
	}
	cuts, letters = Cuts(l)
	spoil(letters, -9)
	if !slices.Equal(cuts, wantC) {
		t.Errorf("P2: spoilt letters left %v", cuts)
	}
	cuts, letters = Cuts(l)
	for i := range l {
		in := In(l, cuts, letters)
		for k := range full(in[i]) {
			full(in[i])[k] = !full(in[i])[k]
		}
		for j := range l {
			if j != i && !slices.Equal(in[j], wantIn[j]) {
				t.Errorf("P2: a spoilt row %d left row %d %v", i, j, in[j])
			}
		}
		spoil(in, nil)
	}
	in := In(l, cuts, letters)
	if !slices.Equal(cuts, wantC) || !slices.Equal(letters, wantL) || !sameRows(in, wantIn) {
		t.Errorf("P3: once more: %v, %v, %v", cuts, letters, in)
	}
	for _, x := range l {
		spoil(x, api.Range{Lo: 1, Hi: 1})
	}
	if !slices.Equal(cuts, wantC) || !slices.Equal(letters, wantL) || !sameRows(in, wantIn) {
		t.Errorf("P2: of spoilt sets: %v, %v, %v", cuts, letters, in)
	}
	spoil(cuts, -9)
	spoil(letters, -9)
	if !sameRows(in, wantIn) {
		t.Errorf("P2: of spoilt cuts and letters: %v", in)
	}
}

// The same calls answer the same, whatever was asked between (P3).
func TestTheSameAgain(t *testing.T) {
	all := few()
	first := make([]string, len(all))
	ask := func(i int) string {
		l := sets(all[i], all[(i*7+3)%len(all)], all[(i*29+11)%len(all)])
		cuts, letters := Cuts(l)
		return fmt.Sprint(cuts, letters, Count(letters), In(l, cuts, letters), Letter(cuts, letters, 3))
	}
	for i := range all {
		first[i] = ask(i)
	}
	for i := range slices.Backward(all) {
		if got := ask(i); got != first[i] {
			t.Errorf("P3: %s, then %s", first[i], got)
		}
	}
}
