package set

import (
	"math"
	"slices"
	"testing"

	"hyphen/api"
)

// of makes ranges of numbers, two by two.
func of(n ...int) []api.Range {
	var l []api.Range
	for i := 0; i < len(n); i += 2 {
		l = append(l, api.Range{Lo: n[i], Hi: n[i+1]})
	}
	return l
}

// within tells in the plainest words whether n is meant by l, ranges of any kind.
func within(l []api.Range, n int) bool {
	return n >= 0 && n <= api.Last && slices.ContainsFunc(l, func(r api.Range) bool { return r.Lo <= n && n <= r.Hi })
}

// ranges tells, number by number, the ranges of those below bound that is tells of.
func ranges(bound int, is func(n int) bool) []api.Range {
	var l []api.Range
	for n := range bound {
		switch {
		case !is(n):
		case len(l) > 0 && l[len(l)-1].Hi == n-1:
			l[len(l)-1].Hi = n
		default:
			l = append(l, api.Range{Lo: n, Hi: n})
		}
	}
	return l
}

// same holds what was told against what has to be.
func same(t *testing.T, promise, what string, got, want []api.Range) {
	t.Helper()
	if !slices.Equal(got, want) {
		t.Errorf("%s: %s: %v, not %v", promise, what, got, want)
	}
	if !Right(got) {
		t.Errorf("%s: %s: %v is not Right", promise, what, got)
	}
}

func TestRight(t *testing.T) {
	for _, l := range [][]api.Range{
		nil, {}, of(0, 0), of(5, 5), of('a', 'z'), of(api.Last, api.Last), of(0, api.Last), of(0xd800, 0xdfff),
		of(0, 0, 2, 2), of(1, 2, 4, 5), of(1, 2, 100, 200, 300, 300), of(0, 0, api.Last, api.Last), of(0, api.Last-2, api.Last, api.Last),
		of(0, 0, 2, 2, 4, 4, 6, api.Last),
	} {
		if !Right(l) {
			t.Errorf("P301: %v is Right", l)
		}
	}
}

func TestRightNot(t *testing.T) {
	for _, l := range [][]api.Range{
		// Lo above Hi.
		of(5, 4), of(1, 0), of(0, -1), of(api.Last, 0), of(1, 2, 9, 8), of(9, 8, 20, 30), of(math.MaxInt, math.MinInt),
		// Out of bounds.
		of(-1, 3), of(-1, -1), of(-5, -2), of(-9, -5, 0, 3), of(api.Last, api.Last+1), of(api.Last+1, api.Last+1), of(3, 4, 6, api.Last+1),
		of(math.MinInt, math.MaxInt), of(0, math.MaxInt), of(math.MinInt, 0), of(math.MaxInt, math.MaxInt), of(math.MinInt, math.MinInt),
		of(1<<32, 1<<32+5), of(0, 1<<32),
		// Touching, overlapping, twice, in no rising order.
		of(1, 2, 3, 5), of(0, 0, 1, 1), of(0, api.Last-1, api.Last, api.Last), of(1, 5, 5, 9), of(1, 9, 3, 4), of(3, 4, 1, 9), of(1, 1, 1, 1),
		of(4, 5, 1, 2), of(1, 2, 4, 5, 6, 7), of(1, 2, 9, 10, 5, 6), of(0, api.Last, 0, api.Last),
		// What would wrap round, were 2 put on it.
		of(0, math.MaxInt, math.MinInt, math.MinInt+5), of(0, math.MaxInt, 3, 4), of(0, math.MaxInt-1, 3, 4), of(5, 6, math.MinInt, 0),
	} {
		if Right(l) {
			t.Errorf("P301: %v is not Right", l)
		}
	}
}

func TestNorm(t *testing.T) {
	for _, c := range []struct{ l, want []api.Range }{
		{nil, nil},
		{of(), nil},
		{of('a', 'z'), of('a', 'z')},
		{of('a', 'z', '0', '9'), of('0', '9', 'a', 'z')},
		{of(0, api.Last), of(0, api.Last)},
		{of(0xd800, 0xdfff), of(0xd800, 0xdfff)},
		// Lo above Hi: no numbers, wherever it stands.
		{of(5, 4), nil},
		{of(api.Last, 0), nil},
		{of(math.MaxInt, math.MinInt), nil},
		{of(9, 3, 5, 5), of(5, 5)},
		{of(5, 5, 9, 3), of(5, 5)},
		{of(1, 2, 4, 3, 4, 5), of(1, 2, 4, 5)},
		{of(1, 3, 5, 4, 5, 6), of(1, 3, 5, 6)},
		{of(3, -3, api.Last+3, api.Last), nil},
		// Out of bounds, in part and wholly.
		{of(-1, 3), of(0, 3)},
		{of(-1, 0), of(0, 0)},
		{of(-1, -1), nil},
		{of(-9, -5, -3, -1, 2, 2), of(2, 2)},
		{of(api.Last, api.Last+1), of(api.Last, api.Last)},
		{of(api.Last+1, api.Last+1), nil},
		{of(api.Last+1, math.MaxInt, 7, 7), of(7, 7)},
		{of(math.MinInt, math.MaxInt), of(0, api.Last)},
		{of(math.MinInt, 0), of(0, 0)},
		{of(math.MinInt, -1), nil},
		{of(api.Last, math.MaxInt), of(api.Last, api.Last)},
		{of(math.MinInt, math.MinInt, math.MaxInt, math.MaxInt), nil},
		{of(1<<32+'a', 1<<32+'z'), nil},
		{of(-1<<32+'a', 'z'), of(0, 'z')},
		// One apart, touching, overlapping, one within the other, twice; rising, falling.
		{of(1, 2, 4, 5), of(1, 2, 4, 5)},
		{of(4, 5, 1, 2), of(1, 2, 4, 5)},
		{of(1, 2, 3, 5), of(1, 5)},
		{of(3, 5, 1, 2), of(1, 5)},
		{of(0, 0, 1, 1), of(0, 1)},
		{of(0, 0, 2, 2), of(0, 0, 2, 2)},
		{of(1, 5, 5, 9), of(1, 9)},
		{of(5, 9, 1, 5), of(1, 9)},
		{of(1, 9, 3, 4), of(1, 9)},
		{of(3, 4, 1, 9), of(1, 9)},
		{of(1, 9, 3, 4, 6, 12), of(1, 12)},
		{of(1, 9, 3, 4, 11, 12), of(1, 9, 11, 12)},
		{of(1, 9, 2, 3, 5, 6, 10, 11), of(1, 11)},
		{of(7, 7, 7, 7), of(7, 7)},
		{of(7, 8, 7, 9, 7, 7), of(7, 9)},
		{of(7, 9, 8, 9, 9, 9), of(7, 9)},
		{of(6, 6, 2, 2, 4, 4, 3, 3, 5, 5), of(2, 6)},
		// 0 and Last as ends.
		{of(0, 0, api.Last, api.Last), of(0, 0, api.Last, api.Last)},
		{of(api.Last, api.Last, 0, api.Last-1), of(0, api.Last)},
		{of(api.Last, api.Last, 0, api.Last-2), of(0, api.Last-2, api.Last, api.Last)},
		{of(1, math.MaxInt, math.MinInt, 0), of(0, api.Last)},
		{of(5, math.MaxInt, 3, math.MaxInt), of(3, api.Last)},
	} {
		same(t, "P301", "Norm", Norm(c.l), c.want)
	}
}

// Norm of any three ranges about 0, and about Last, is what the plainest words have.
func TestNormAllSmall(t *testing.T) {
	var all []api.Range
	for lo := -1; lo <= 4; lo++ {
		for hi := -2; hi <= 5; hi++ {
			all = append(all, api.Range{Lo: lo, Hi: hi})
		}
	}
	for _, a := range all {
		for _, b := range all {
			for _, c := range all {
				l := []api.Range{a, b, c}
				want := ranges(10, func(n int) bool { return within(l, n) })
				if got := Norm(l); !slices.Equal(got, want) || !Right(got) {
					t.Fatalf("P301: Norm %v: %v, not %v", l, got, want)
				}
				if slices.Equal(l, want) != Right(l) {
					t.Fatalf("P301: Right %v: %v", l, Right(l))
				}
				same(t, "P301", "Norm about Last", Norm(turned(l)), turned(want))
			}
		}
	}
}

// turned: each number as far from Last as it was from 0, and so the last range first.
func turned(l []api.Range) []api.Range {
	var m []api.Range
	for _, r := range slices.Backward(l) {
		m = append(m, api.Range{Lo: api.Last - r.Hi, Hi: api.Last - r.Lo})
	}
	return m
}

func TestHas(t *testing.T) {
	l := of(0, 0, 5, 9, 11, 11, 0xd800, 0xdfff, api.Last, api.Last)
	for n, want := range map[int]bool{
		0: true, 1: false, 4: false, 5: true, 7: true, 9: true, 10: false, 11: true, 12: false,
		0xd7ff: false, 0xd800: true, 0xdfff: true, 0xe000: false, api.Last - 1: false, api.Last: true, api.Last + 1: false,
		-1: false, math.MinInt: false, math.MaxInt: false, 1 << 32: false, 1<<32 + 5: false, -1<<32 + 5: false,
	} {
		if Has(l, n) != want {
			t.Errorf("P302: Has %d: not %v", n, want)
		}
	}
	for _, n := range []int{0, 1, -1, api.Last, api.Last + 1, math.MinInt, math.MaxInt} {
		if Has(nil, n) || Has([]api.Range{}, n) {
			t.Errorf("P302: none has %d", n)
		}
		if Has(of(0, api.Last), n) != (n >= 0 && n <= api.Last) {
			t.Errorf("P302: all and %d", n)
		}
	}
}

// Of many ranges each number is found, and none between.
func TestHasMany(t *testing.T) {
	for many := range 40 {
		var l []api.Range
		for i := range many {
			l = append(l, api.Range{Lo: 5*i + 2, Hi: 5*i + 4})
		}
		for n := -3; n < 5*many+5; n++ {
			if want := n >= 2 && n < 5*many && n%5 >= 2; Has(l, n) != want {
				t.Fatalf("P302: %d ranges: Has %d: not %v", many, n, want)
			}
		}
	}
}

func TestOr(t *testing.T) {
	a, b, c := of(0, 9, 20, 29), of(10, 12, 31, 31), of(15, 15, 28, 30, api.Last, api.Last)
	same(t, "P302", "Or of none", Or(), nil)
	same(t, "P302", "Or of a nil list", Or(nil), nil)
	same(t, "P302", "Or of empty ones", Or(nil, of(), []api.Range{}), nil)
	same(t, "P302", "Or of one", Or(a), a)
	same(t, "P302", "Or of one twice", Or(a, a), a)
	same(t, "P302", "Or of one and none", Or(nil, a, nil), a)
	same(t, "P302", "Or of two", Or(a, b), of(0, 12, 20, 29, 31, 31))
	same(t, "P302", "Or of two, the other way", Or(b, a), of(0, 12, 20, 29, 31, 31))
	same(t, "P302", "Or of three", Or(a, b, c), of(0, 12, 15, 15, 20, 31, api.Last, api.Last))
	same(t, "P302", "Or of three, the other way", Or(c, b, a), of(0, 12, 15, 15, 20, 31, api.Last, api.Last))
	same(t, "P302", "Or with all", Or(a, of(0, api.Last), c), of(0, api.Last))
	var many [][]api.Range
	for i := range 100 {
		many = append(many, of(99-i, 99-i, 300+2*i, 300+2*i))
	}
	want := of(0, 99)
	for i := range 100 {
		want = append(want, api.Range{Lo: 300 + 2*i, Hi: 300 + 2*i})
	}
	same(t, "P302", "Or of many", Or(many...), want)
}

func TestAnd(t *testing.T) {
	a, b := of(0, 9, 20, 29, 40, api.Last), of(5, 24, 30, 39)
	same(t, "P302", "And", And(a, b), of(5, 9, 20, 24))
	same(t, "P302", "And, the other way", And(b, a), of(5, 9, 20, 24))
	same(t, "P302", "And of none", And(nil, nil), nil)
	same(t, "P302", "And with none", And(a, nil), nil)
	same(t, "P302", "And of none with some", And(nil, a), nil)
	same(t, "P302", "And with itself", And(a, a), a)
	same(t, "P302", "And with all", And(of(0, api.Last), b), b)
	same(t, "P302", "And of one number", And(of(0, 7), of(7, 9)), of(7, 7))
	same(t, "P302", "And of neighbours", And(of(0, 6), of(7, 9)), nil)
	same(t, "P302", "And of ends", And(of(3, 5, 9, 12), of(5, 5, 7, 9, 12, 20)), of(5, 5, 9, 9, 12, 12))
	same(t, "P302", "And of ends that are the same", And(of(3, 5, 9, 12), of(4, 5, 11, 12)), of(4, 5, 11, 12))
	same(t, "P302", "And of one over many", And(of(2, 20), of(0, 0, 2, 3, 5, 5, 19, 25)), of(2, 3, 5, 5, 19, 20))
	same(t, "P302", "And at 0 and Last", And(of(0, 1, api.Last, api.Last), of(0, 0, api.Last-1, api.Last)), of(0, 0, api.Last, api.Last))
}

func TestNot(t *testing.T) {
	same(t, "P302", "Not of nothing", Not(nil), of(0, api.Last))
	same(t, "P302", "Not of an empty list", Not([]api.Range{}), of(0, api.Last))
	same(t, "P302", "Not of all", Not(of(0, api.Last)), nil)
	same(t, "P302", "Not of 0", Not(of(0, 0)), of(1, api.Last))
	same(t, "P302", "Not of Last", Not(of(api.Last, api.Last)), of(0, api.Last-1))
	same(t, "P302", "Not of both ends", Not(of(0, 0, api.Last, api.Last)), of(1, api.Last-1))
	same(t, "P302", "Not of all but both ends", Not(of(1, api.Last-1)), of(0, 0, api.Last, api.Last))
	same(t, "P302", "Not of some", Not(of(5, 5, 7, 9)), of(0, 4, 6, 6, 10, api.Last))
	same(t, "P302", "Not of surrogates", Not(of(0xd800, 0xdfff)), of(0, 0xd7ff, 0xe000, api.Last))
}

func TestLess(t *testing.T) {
	a, b := of(0, 9, 20, 29, 40, api.Last), of(5, 24, 30, 39)
	same(t, "P302", "Less", Less(a, b), of(0, 4, 25, 29, 40, api.Last))
	same(t, "P302", "Less, the other way", Less(b, a), of(10, 19, 30, 39))
	same(t, "P302", "Less none", Less(a, nil), a)
	same(t, "P302", "none Less", Less(nil, a), nil)
	same(t, "P302", "none Less none", Less(nil, nil), nil)
	same(t, "P302", "Less itself", Less(a, a), nil)
	same(t, "P302", "Less all", Less(a, of(0, api.Last)), nil)
	same(t, "P302", "all Less", Less(of(0, api.Last), b), of(0, 4, 25, 29, 40, api.Last))
	same(t, "P302", "Less what is within", Less(of(3, 9), of(5, 6)), of(3, 4, 7, 9))
	same(t, "P302", "Less ends", Less(of(3, 9), of(0, 3, 9, 12)), of(4, 8))
	same(t, "P302", "Less 0 and Last", Less(of(0, api.Last), of(0, 0, api.Last, api.Last)), of(1, api.Last-1))
	same(t, "P302", "Less many of one", Less(of(0, 20), of(0, 0, 2, 2, 4, 4, 20, 20)), of(1, 1, 3, 3, 5, 19))
}

// few tells the sets of numbers below 7, as Right ranges; what is 6 and above goes on up to Last, where 6 is in.
func few() [][]api.Range {
	var all [][]api.Range
	for bits := range 1 << 7 {
		l := ranges(7, func(n int) bool { return bits>>n&1 == 1 })
		if bits>>6 == 1 {
			l[len(l)-1].Hi = api.Last
		}
		all = append(all, l)
	}
	return all
}

// high tells whether n is in l, n from 7 on told by 6.
func high(l []api.Range, n int) bool {
	return within(l, min(n, 6))
}

// stretched tells the ranges below 7 that is tells of, 6 standing for all up to Last.
func stretched(is func(n int) bool) []api.Range {
	l := ranges(7, is)
	if len(l) > 0 && l[len(l)-1].Hi == 6 {
		l[len(l)-1].Hi = api.Last
	}
	return l
}

// All pairs of small sets: what each call tells is what the plainest words have.
func TestAllSmall(t *testing.T) {
	all := few()
	for _, a := range all {
		same(t, "P302", "Not", Not(a), stretched(func(n int) bool { return !high(a, n) }))
		for n := -2; n < 10; n++ {
			if Has(a, n) != (n >= 0 && high(a, n)) {
				t.Errorf("P302: Has %v, %d", a, n)
			}
		}
		for _, b := range all {
			same(t, "P302", "Or", Or(a, b), stretched(func(n int) bool { return high(a, n) || high(b, n) }))
			same(t, "P302", "And", And(a, b), stretched(func(n int) bool { return high(a, n) && high(b, n) }))
			same(t, "P302", "Less", Less(a, b), stretched(func(n int) bool { return high(a, n) && !high(b, n) }))
		}
	}
}

// The laws of sets, over all pairs of small ones (P303).
func TestLawsOfTwo(t *testing.T) {
	all := few()
	whole := of(0, api.Last)
	for _, a := range all {
		same(t, "P303", "not not", Not(Not(a)), a)
		same(t, "P303", "a or not a", Or(a, Not(a)), whole)
		same(t, "P303", "a and not a", And(a, Not(a)), nil)
		same(t, "P303", "a or a", Or(a, a), a)
		same(t, "P303", "a and a", And(a, a), a)
		same(t, "P303", "all less a", Less(whole, a), Not(a))
		same(t, "P303", "Norm", Norm(a), a)
		for _, b := range all {
			same(t, "P303", "or, the other way", Or(a, b), Or(b, a))
			same(t, "P303", "and, the other way", And(a, b), And(b, a))
			same(t, "P303", "not or", Not(Or(a, b)), And(Not(a), Not(b)))
			same(t, "P303", "not and", Not(And(a, b)), Or(Not(a), Not(b)))
			same(t, "P303", "less", Less(a, b), And(a, Not(b)))
			same(t, "P303", "less of the or", Less(Or(a, b), b), Less(a, b))
			same(t, "P303", "a or what both have", Or(a, And(a, b)), a)
			same(t, "P303", "a and what any has", And(a, Or(a, b)), a)
			same(t, "P303", "parts of a", Or(Less(a, b), And(a, b)), a)
			same(t, "P303", "parts that share none", And(Less(a, b), b), nil)
		}
	}
}

// The laws of sets, over three (P303).
func TestLawsOfThree(t *testing.T) {
	all := few()
	for i := 0; i < len(all); i += 3 {
		for j := 0; j < len(all); j += 5 {
			for k := 1; k < len(all); k += 7 {
				a, b, c := all[i], all[j], all[k]
				same(t, "P303", "or of three", Or(a, b, c), Or(Or(a, b), c))
				same(t, "P303", "or, taken together", Or(Or(a, b), c), Or(a, Or(b, c)))
				same(t, "P303", "and, taken together", And(And(a, b), c), And(a, And(b, c)))
				same(t, "P303", "and over or", And(a, Or(b, c)), Or(And(a, b), And(a, c)))
				same(t, "P303", "or over and", Or(a, And(b, c)), And(Or(a, b), Or(a, c)))
				same(t, "P303", "less two", Less(Less(a, b), c), Less(a, Or(b, c)))
			}
		}
	}
}

// Many ranges, in an order that is all mixed up: told in good time.
func TestMany(t *testing.T) {
	const many = 200000
	var l, want []api.Range
	for i := range many {
		n := i * 77777 % many * 5
		l = append(l, api.Range{Lo: n, Hi: n + 2})
		want = append(want, api.Range{Lo: 5 * i, Hi: 5*i + 2})
	}
	same(t, "P301", "Norm of many", Norm(l), want)
	same(t, "P302", "Not twice of many", Not(Not(want)), want)
	same(t, "P302", "And of many", And(want, Not(want)), nil)
	for i := range many {
		if !Has(want, 5*i+2) || Has(want, 5*i+3) {
			t.Fatalf("P302: Has of many, at %d", i)
		}
	}
}

// odd: lists that are no Right ranges.
func odd() [][]api.Range {
	return [][]api.Range{
		of(5, 4), of(-3, 7), of(3, api.Last+9), of(4, 5, 1, 2), of(1, 1, 1, 1), of(1, 9, 2, 3, 0, 20),
		of(math.MinInt, math.MaxInt), of(math.MaxInt, math.MinInt), of(math.MaxInt, math.MaxInt, math.MinInt, math.MinInt),
		of(0, math.MaxInt, math.MinInt, -1, 5, 5), of(math.MinInt, math.MinInt), of(0, math.MaxInt),
	}
}

// Of what is not Right nothing is promised but an end, and that it stays as it was (P1, P2, P8).
func TestHandedInWhereItMayNotBe(t *testing.T) {
	lists := append(odd(), nil, of(1, 5))
	was := append(odd(), nil, of(1, 5))
	for i, a := range lists {
		Not(a)
		for _, n := range []int{0, 3, -1, math.MinInt, math.MaxInt} {
			Has(a, n)
		}
		for j, b := range lists {
			Or(a, b)
			And(a, b)
			Less(a, b)
			if !slices.Equal(a, was[i]) || !slices.Equal(b, was[j]) {
				t.Errorf("P2: %v, %v of %v, %v", a, b, was[i], was[j])
			}
		}
	}
}

// calls: every call that tells ranges, by name.
func calls() map[string]func(a, b []api.Range) []api.Range {
	return map[string]func(a, b []api.Range) []api.Range{
		"Norm":      func(a, _ []api.Range) []api.Range { return Norm(a) },
		"Or":        func(a, b []api.Range) []api.Range { return Or(a, b) },
		"Or of one": func(a, _ []api.Range) []api.Range { return Or(a) },
		"And":       And,
		"Not":       func(a, _ []api.Range) []api.Range { return Not(a) },
		"Less":      Less,
	}
}

// handed: pairs of sets, Right ones, with spare room behind.
func handed() [][2][]api.Range {
	room := func(n ...int) []api.Range {
		l := of(n...)
		return append(l, of(-7, -7, 3, 3, -8, -8)...)[:len(l)]
	}
	return [][2][]api.Range{
		{room(), room()}, {room(1, 5), room()}, {room(), room(1, 5)}, {room(0, api.Last), room(0, api.Last)},
		{room(1, 5, 9, 9), room(3, 12)}, {room(1, 5), room(1, 5)}, {room(0, 9), room(20, 29)},
		{room(9, 9, 50, 60, 70, 80), room(0, 100)},
	}
}

// What is handed in, its spare room too, stays as it was (P2).
func TestHandedInStays(t *testing.T) {
	for name, call := range calls() {
		for _, p := range handed() {
			a, b := slices.Clone(p[0][:cap(p[0])]), slices.Clone(p[1][:cap(p[1])])
			call(p[0], p[1])
			if !slices.Equal(p[0][:cap(p[0])], a) || !slices.Equal(p[1][:cap(p[1])], b) {
				t.Errorf("P2: %s left %v, %v of %v, %v", name, p[0], p[1], a, b)
			}
		}
	}
	l := append(of(9, 9, -4, 2, 7, 3, 3, 6, 9, 12), of(-7, -7, 5, 5)...)
	was := slices.Clone(l[:cap(l)])
	same(t, "P301", "Norm beside spare room", Norm(l[:5]), of(0, 6, 9, 12))
	Right(l[:5])
	Has(l[:5], 7)
	if !slices.Equal(l[:cap(l)], was) {
		t.Errorf("P2: Norm left %v of %v", l, was)
	}
	// The lists of Or, spare room among them.
	lists := [][]api.Range{of(5, 9), of(1, 2), of(99, 99)}
	Or(lists[:2]...)
	for i, want := range [][]api.Range{of(5, 9), of(1, 2), of(99, 99)} {
		if !slices.Equal(lists[i], want) {
			t.Errorf("P2: Or left %v of %v", lists[i], want)
		}
	}
}

// spoil writes over all of l, its spare room too.
func spoil(l []api.Range) {
	l = l[:cap(l)]
	for i := range l {
		l[i] = api.Range{Lo: -9, Hi: -9}
	}
}

// What is answered is the asker's own, its spare room too, and nothing is kept of what was handed in (P2, P3).
func TestAnswersAreNew(t *testing.T) {
	for name, call := range calls() {
		for i, p := range handed() {
			a, b := slices.Clone(p[0][:cap(p[0])]), slices.Clone(p[1][:cap(p[1])])
			first := call(p[0], p[1])
			want := slices.Clone(first)
			spoil(first)
			if !slices.Equal(p[0][:cap(p[0])], a) || !slices.Equal(p[1][:cap(p[1])], b) {
				t.Errorf("P2: %s: a spoilt answer left %v, %v of %v, %v", name, p[0], p[1], a, b)
			}
			again := call(p[0], p[1])
			if !slices.Equal(again, want) {
				t.Errorf("P3: %s %d: %v, then %v", name, i, want, again)
			}
			spoil(p[0])
			spoil(p[1])
			if !slices.Equal(again, want) {
				t.Errorf("P2: %s %d: %v of spoilt arguments, not %v", name, i, again, want)
			}
		}
	}
}
