package utf

import (
	"math"
	"slices"
	"strings"
	"testing"
	"unicode/utf8"

	"hyphen/api"
)

// decodes holds what Decode tells of s against what it has to tell.
func decodes(t *testing.T, s string, scalars, offsets []int) {
	t.Helper()
	gotS, gotO := Decode(s)
	if !slices.Equal(gotS, scalars) || !slices.Equal(gotO, offsets) {
		t.Errorf("P201: Decode %x: %x %v, not %x %v", s, gotS, gotO, scalars, offsets)
	}
}

// bads: that many broken ones.
func bads(n int) []int {
	return slices.Repeat([]int{api.Bad}, n)
}

// upTo: 0 to n, the offsets of n single bytes.
func upTo(n int) []int {
	var l []int
	for i := range n + 1 {
		l = append(l, i)
	}
	return l
}

func TestScalar(t *testing.T) {
	for n, want := range map[int]bool{
		0: true, 1: true, 'a': true, 0x7f: true, 0x80: true, 0x7ff: true, 0x800: true,
		0xd7fe: true, 0xd7ff: true, 0xd800: false, 0xd801: false, 0xdbff: false, 0xdc00: false, 0xdffe: false, 0xdfff: false, 0xe000: true, 0xe001: true,
		0xfffd: true, 0xfffe: true, 0xffff: true, 0x10000: true, 0x10fffe: true, 0x10ffff: true, 0x110000: false, 0x110001: false,
		-1: false, -0xd800: false, math.MinInt32: false, math.MaxInt32: false, math.MinInt: false, math.MaxInt: false,
		// What would be a scalar, were it cut to 32, 21, 16 bits.
		1 << 32: false, 1<<32 + 'a': false, -1<<32 + 'a': false, 1 << 40: false, 1 << 21: false, 1<<21 + 'a': false, -1<<63 + 'a': false,
	} {
		if Scalar(n) != want {
			t.Errorf("P201: Scalar %x: not %v", n, want)
		}
	}
}

// Of all numbers round about just those of W1 are scalars.
func TestScalarWhole(t *testing.T) {
	count := 0
	for n := -0x1000; n <= 0x120000; n++ {
		if Scalar(n) {
			count++
		}
	}
	if count != 0x110000-0x800 {
		t.Errorf("P201: %d scalars", count)
	}
}

func TestDecodeOrdinary(t *testing.T) {
	decodes(t, "a", []int{'a'}, []int{0, 1})
	decodes(t, "word", []int{'w', 'o', 'r', 'd'}, []int{0, 1, 2, 3, 4})
	decodes(t, "\x00\n\x7f", []int{0, 10, 0x7f}, []int{0, 1, 2, 3})
	decodes(t, "a\u00e9\u20ac\U0001f600!", []int{'a', 0xe9, 0x20ac, 0x1f600, '!'}, []int{0, 1, 3, 6, 10, 11})
	decodes(t, "e\u0301", []int{'e', 0x301}, []int{0, 1, 3})
	decodes(t, "\ufeffa", []int{0xfeff, 'a'}, []int{0, 3, 4})
}

func TestDecodeNoBytes(t *testing.T) {
	decodes(t, "", nil, []int{0})
}

// The first and the last scalar of each length, and those beside the surrogates.
func TestDecodeEdges(t *testing.T) {
	for s, n := range map[string]int{
		"\x00": 0, "\x7f": 0x7f,
		"\xc2\x80": 0x80, "\xdf\xbf": 0x7ff,
		"\xe0\xa0\x80": 0x800, "\xe0\xbf\xbf": 0xfff, "\xe1\x80\x80": 0x1000, "\xec\xbf\xbf": 0xcfff, "\xed\x80\x80": 0xd000,
		"\xed\x9f\xbf": 0xd7ff, "\xee\x80\x80": 0xe000, "\xef\xbf\xbc": 0xfffc, "\xef\xbf\xbe": 0xfffe, "\xef\xbf\xbf": 0xffff,
		"\xf0\x90\x80\x80": 0x10000, "\xf0\xbf\xbf\xbf": 0x3ffff, "\xf1\x80\x80\x80": 0x40000, "\xf3\xbf\xbf\xbf": 0xfffff,
		"\xf4\x80\x80\x80": 0x100000, "\xf4\x8f\xbf\xbf": 0x10ffff,
	} {
		decodes(t, s, []int{n}, []int{0, len(s)})
		decodes(t, s+s, []int{n, n}, []int{0, len(s), 2 * len(s)})
		decodes(t, "x"+s+"y", []int{'x', n, 'y'}, []int{0, 1, 1 + len(s), 2 + len(s)})
		if got := Encode([]int{n}); got != s {
			t.Errorf("P201: Encode %x: %x, not %x", n, got, s)
		}
	}
}

// FFFD itself is no broken one: it has its three bytes, whatever stands beside it.
func TestDecodeBadItself(t *testing.T) {
	decodes(t, "\ufffd", bads(1), []int{0, 3})
	decodes(t, "\ufffd\ufffd", bads(2), []int{0, 3, 6})
	decodes(t, "\ufffd\xbd", bads(2), []int{0, 3, 4})
	decodes(t, "\xef\xbf\ufffd\xef\xbf", bads(3), []int{0, 2, 5, 7})
	decodes(t, "\xef\ufffda", []int{api.Bad, api.Bad, 'a'}, []int{0, 1, 4, 5})
}

// Bytes that cannot begin: each is one of its own, alone, in the middle, at the end.
func TestDecodeNoBeginning(t *testing.T) {
	for b := 0x80; b <= 0xff; b++ {
		if b >= 0xc2 && b <= 0xf4 {
			continue
		}
		s := string([]byte{byte(b)})
		decodes(t, s, bads(1), []int{0, 1})
		decodes(t, s+"a", []int{api.Bad, 'a'}, []int{0, 1, 2})
		decodes(t, "a"+s, []int{'a', api.Bad}, []int{0, 1, 2})
		decodes(t, s+"\x80\xbf\x80", bads(4), upTo(4))
		decodes(t, strings.Repeat(s, 9), bads(9), upTo(9))
		decodes(t, "\u20ac"+s+"\u20ac", []int{0x20ac, api.Bad, 0x20ac}, []int{0, 3, 4, 7})
	}
}

// What is too long for what it says, surrogates, and what is above the last scalar: no byte of it goes on what is ahead.
func TestDecodeNotGoneOn(t *testing.T) {
	for _, s := range []string{
		"\xc0\x80", "\xc0\xaf", "\xc1\xbf",
		"\xe0\x80\x80", "\xe0\x80\xaf", "\xe0\x9f\xbf",
		"\xed\xa0\x80", "\xed\xaf\xbf", "\xed\xb0\x80", "\xed\xbf\xbf", "\xed\xa0\xbd\xed\xb8\x80",
		"\xf0\x80\x80\x80", "\xf0\x8f\xbf\xbf",
		"\xf4\x90\x80\x80", "\xf4\xbf\xbf\xbf",
		"\xf5\x80\x80\x80", "\xf7\xbf\xbf\xbf", "\xf8\x88\x80\x80\x80", "\xfc\x84\x80\x80\x80\x80", "\xfe\xff",
	} {
		decodes(t, s, bads(len(s)), upTo(len(s)))
	}
}

// Fronts of one, two and three bytes, that break off in the middle and at the end, are one each.
func TestDecodeFronts(t *testing.T) {
	for _, s := range []string{
		"\xc2", "\xdf",
		"\xe0", "\xe0\xa0", "\xe0\xbf", "\xe1", "\xe1\x80", "\xe2\x82", "\xec\xbf", "\xed", "\xed\x80", "\xed\x9f", "\xee\x80", "\xef", "\xef\xbf",
		"\xf0", "\xf0\x90", "\xf0\xbf", "\xf0\x90\x80", "\xf0\xbf\xbf", "\xf1", "\xf1\x80", "\xf1\x80\x80", "\xf3", "\xf3\xbf", "\xf3\xbf\xbf",
		"\xf4", "\xf4\x80", "\xf4\x8f", "\xf4\x80\x80", "\xf4\x8f\xbf",
	} {
		n := len(s)
		decodes(t, s, bads(1), []int{0, n})
		decodes(t, "a"+s, []int{'a', api.Bad}, []int{0, 1, 1 + n})
		decodes(t, s+"a", []int{api.Bad, 'a'}, []int{0, n, n + 1})
		decodes(t, s+"\u00e9", []int{api.Bad, 0xe9}, []int{0, n, n + 2})
		decodes(t, s+"\U0001f600", []int{api.Bad, 0x1f600}, []int{0, n, n + 4})
		decodes(t, s+s, bads(2), []int{0, n, 2 * n})
		decodes(t, s+"\xff", bads(2), []int{0, n, n + 1})
		decodes(t, s+"\xc2", bads(2), []int{0, n, n + 1})
		decodes(t, "\x80"+s+"b", []int{api.Bad, api.Bad, 'b'}, []int{0, 1, 1 + n, 2 + n})
	}
	decodes(t, "\xe2\x82A", []int{api.Bad, 'A'}, []int{0, 2, 3})
	decodes(t, "\xf1\x80\x80\xe1\x80\xc2b\x80c\x80\xbfd", []int{api.Bad, api.Bad, api.Bad, 'b', api.Bad, 'c', api.Bad, api.Bad, 'd'}, []int{0, 3, 5, 6, 7, 8, 9, 10, 11, 12})
	// A byte behind that does not fit the second's bounds ends the front, though another one's second it might be.
	decodes(t, "\xe0\x9f", bads(2), upTo(2))
	decodes(t, "\xed\xa0", bads(2), upTo(2))
	decodes(t, "\xf0\x8f", bads(2), upTo(2))
	decodes(t, "\xf4\x90", bads(2), upTo(2))
	// From the third on the bounds are the wide ones.
	decodes(t, "\xe0\xa0\x80\xe0\xa0\x9f", []int{0x800, 0x81f}, []int{0, 3, 6})
	decodes(t, "\xf0\x90\x80", bads(1), []int{0, 3})
	decodes(t, "\xf4\x8f\x90", bads(1), []int{0, 3})
}

// forms: of each kind of scalar the bounds of its bytes, as P201 has them.
func forms() [][][2]byte {
	tail := [2]byte{0x80, 0xbf}
	return [][][2]byte{
		{{0, 0x7f}},
		{{0xc2, 0xdf}, tail},
		{{0xe0, 0xe0}, {0xa0, 0xbf}, tail},
		{{0xe1, 0xec}, tail, tail},
		{{0xed, 0xed}, {0x80, 0x9f}, tail},
		{{0xee, 0xef}, tail, tail},
		{{0xf0, 0xf0}, {0x90, 0xbf}, tail, tail},
		{{0xf1, 0xf3}, tail, tail, tail},
		{{0xf4, 0xf4}, {0x80, 0x8f}, tail, tail},
	}
}

// plainly is Decode in the plainest words: the form that fits furthest, whole or broken off.
func plainly(s string, forms [][][2]byte) (scalars, offsets []int) {
	at := 0
	for at < len(s) {
		size, n := 1, api.Bad
		for _, form := range forms {
			fit := 0
			for fit < len(form) && at+fit < len(s) && form[fit][0] <= s[at+fit] && s[at+fit] <= form[fit][1] {
				fit++
			}
			size = max(size, fit)
			if fit == len(form) {
				n = value(s[at : at+fit])
			}
		}
		scalars, offsets = append(scalars, n), append(offsets, at)
		at += size
	}
	return scalars, append(offsets, len(s))
}

// value is the number that whole bytes write.
func value(s string) int {
	if len(s) == 1 {
		return int(s[0])
	}
	n := int(s[0]) & (0x7f >> len(s))
	for i := 1; i < len(s); i++ {
		n = n<<6 | int(s[i]&0x3f)
	}
	return n
}

// Each byte, each two, and rows of up to four of those at the edges: as the plainest words have it.
func TestDecodeAllShort(t *testing.T) {
	forms := forms()
	check := func(b []byte) {
		s := string(b)
		wantS, wantO := plainly(s, forms)
		gotS, gotO := Decode(s)
		if !slices.Equal(gotS, wantS) || !slices.Equal(gotO, wantO) {
			t.Fatalf("P201: Decode %x: %x %v, not %x %v", s, gotS, gotO, wantS, wantO)
		}
	}
	for i := range 256 {
		check([]byte{byte(i)})
		for j := range 256 {
			check([]byte{byte(i), byte(j)})
		}
	}
	edges := []byte{0, 'a', 0x7f, 0x80, 0x8f, 0x90, 0x9f, 0xa0, 0xbd, 0xbf, 0xc0, 0xc1, 0xc2, 0xdf, 0xe0, 0xe1, 0xec, 0xed, 0xee, 0xef, 0xf0, 0xf1, 0xf3, 0xf4, 0xf5, 0xff}
	for _, a := range edges {
		for _, b := range edges {
			for _, c := range edges {
				check([]byte{a, b, c})
				for _, d := range edges {
					check([]byte{a, b, c, d})
				}
			}
		}
	}
}

// What is right is told as Go tells it.
func TestDecodeAsGo(t *testing.T) {
	s := strings.Repeat("Bl\u00f6\u00dfe \u65e5\u672c \U0001d11e\r\n", 500)
	scalars, offsets := Decode(s)
	i := 0
	for at, r := range s {
		if scalars[i] != int(r) || offsets[i] != at {
			t.Fatalf("P201: at %d: %x, from %d", i, scalars[i], offsets[i])
		}
		i++
	}
	if i != len(scalars) || i+1 != len(offsets) || offsets[i] != len(s) {
		t.Errorf("P201: %d scalars, %d offsets of %d", len(scalars), len(offsets), i)
	}
}

// Many broken ones, as many as there are bytes, and as many fronts.
func TestDecodeLong(t *testing.T) {
	const many = 100000
	decodes(t, strings.Repeat("\x80", many), bads(many), upTo(many))
	scalars, offsets := Decode(strings.Repeat("\xf4\x8f\xbf", many))
	if !slices.Equal(scalars, bads(many)) || len(offsets) != many+1 {
		t.Fatalf("P201: %d scalars, %d offsets", len(scalars), len(offsets))
	}
	for i, at := range offsets {
		if at != 3*i {
			t.Fatalf("P201: offset %d: %d", i, at)
		}
	}
}

func TestEncode(t *testing.T) {
	for _, c := range []struct {
		l    []int
		want string
	}{
		{nil, ""},
		{[]int{}, ""},
		{[]int{0}, "\x00"},
		{[]int{'a', 'b'}, "ab"},
		{[]int{'a', 0xe9, 0x20ac, 0x1f600, '!'}, "a\xc3\xa9\xe2\x82\xac\xf0\x9f\x98\x80!"},
		{[]int{0x7f, 0x80, 0x7ff, 0x800, 0xffff, 0x10000, 0x10ffff}, "\x7f\xc2\x80\xdf\xbf\xe0\xa0\x80\xef\xbf\xbf\xf0\x90\x80\x80\xf4\x8f\xbf\xbf"},
		{[]int{api.Bad}, "\xef\xbf\xbd"},
	} {
		if got := Encode(c.l); got != c.want {
			t.Errorf("P201: Encode %x: %x, not %x", c.l, got, c.want)
		}
	}
}

// What is no scalar is written as FFFD, and what stands beside it as ever.
func TestEncodeNoScalars(t *testing.T) {
	for _, n := range []int{
		0xd800, 0xd801, 0xdbff, 0xdc00, 0xdffe, 0xdfff, 0x110000, -1, -'a', 1 << 21,
		1 << 32, 1<<32 + 'a', -1<<32 + 'a', 1 << 40, math.MaxInt32, math.MinInt32, math.MaxInt, math.MinInt, math.MinInt + 'a',
	} {
		if got := Encode([]int{n}); got != "\xef\xbf\xbd" {
			t.Errorf("P201: Encode %x: %x", n, got)
		}
		if got := Encode([]int{'x', n, 'y', n}); got != "x\ufffdy\ufffd" {
			t.Errorf("P201: Encode %x beside others: %x", n, got)
		}
	}
	// A pair of surrogates is no scalar either.
	if got := Encode([]int{0xd83d, 0xde00}); got != "\ufffd\ufffd" {
		t.Errorf("P201: Encode of a pair: %x", got)
	}
}

// Every scalar there is comes back, and begins where the bytes of those ahead end (P202).
func TestThereAndBack(t *testing.T) {
	var all, begins []int
	at := 0
	for n := range api.Last + 1 {
		if n >= 0xd800 && n <= 0xdfff {
			continue
		}
		all, begins = append(all, n), append(begins, at)
		at += utf8.RuneLen(rune(n))
	}
	begins = append(begins, at)
	scalars, offsets := Decode(Encode(all))
	if !slices.Equal(scalars, all) {
		t.Error("P202: not all scalars are decoded as they were")
	}
	if !slices.Equal(offsets, begins) {
		t.Error("P201: offsets of all scalars")
	}
	slices.Reverse(all)
	if scalars, _ = Decode(Encode(all)); !slices.Equal(scalars, all) {
		t.Error("P202: not all scalars are decoded as they were, from the last on")
	}
}

// Rows of scalars at the edges come back, side by side in any way; none of them, too (P202).
func TestThereAndBackSideBySide(t *testing.T) {
	edges := []int{0, 0x7f, 0x80, 0x7ff, 0x800, 0xd7ff, 0xe000, api.Bad, 0xffff, 0x10000, api.Last}
	for _, a := range edges {
		for _, b := range edges {
			for _, c := range edges {
				l := []int{a, b, c}
				if scalars, offsets := Decode(Encode(l)); !slices.Equal(scalars, l) || len(offsets) != 4 {
					t.Errorf("P202: %x: %x", l, scalars)
				}
			}
		}
	}
	if scalars, offsets := Decode(Encode(nil)); len(scalars) != 0 || !slices.Equal(offsets, []int{0}) {
		t.Errorf("P202: none: %x %v", scalars, offsets)
	}
}

// A text that is whole is written as it was; a broken one stays, once it is mended.
func TestBackAndThere(t *testing.T) {
	for s, want := range map[string]string{
		"":                        "",
		"a\u00e9\u20ac\U0001f600": "a\u00e9\u20ac\U0001f600",
		"\xe2\x82A":               "\ufffdA",
		"\xf0\x9f\x98\xf0":        "\ufffd\ufffd",
		"\xed\xa0\x80":            "\ufffd\ufffd\ufffd",
	} {
		scalars, _ := Decode(s)
		got := Encode(scalars)
		if got != want {
			t.Errorf("P201: Encode of what Decode tells of %x: %x, not %x", s, got, want)
		}
		if again, _ := Decode(got); !slices.Equal(again, scalars) {
			t.Errorf("P202: %x: %x", scalars, again)
		}
	}
}

// What is handed in, its spare room too, stays as it was (P2).
func TestHandedInStays(t *testing.T) {
	room := []int{'a', -1, 0xd800, 1 << 40, 'z', 0x20ac, -7}
	was := slices.Clone(room)
	if got := Encode(room[:4]); got != "a\ufffd\ufffd\ufffd" {
		t.Errorf("P201: Encode beside spare room: %x", got)
	}
	if !slices.Equal(room, was) {
		t.Errorf("P2: Encode left %v of %v", room, was)
	}
	whole := "ab\xe2\x82\x80\xff\xe2"
	part := whole[1:5]
	Decode(part)
	if whole != "ab\xe2\x82\x80\xff\xe2" || part != "b\xe2\x82\x80" {
		t.Errorf("P2: Decode left %x, %x", whole, part)
	}
	// What stands behind what is handed in counts for nothing.
	decodes(t, whole[1:4], []int{'b', api.Bad}, []int{0, 1, 3})
}

// Nothing is kept of what was handed in (P2).
func TestNotKept(t *testing.T) {
	l := []int{'a', 'b'}
	s := Encode(l)
	l[0] = 'c'
	if s != "ab" || Encode(l) != "cb" {
		t.Errorf("P2: Encode after a change: %s, %s", s, Encode(l))
	}
}

// spoil writes over all of l, its spare room too.
func spoil(l []int) {
	l = l[:cap(l)]
	for i := range l {
		l[i] = -9
	}
}

// What is answered is the asker's own, its spare room too: neither the other list nor a later answer tells of a change (P2, P3).
func TestAnswersAreNew(t *testing.T) {
	for _, s := range []string{"", "a", "a\u20ac\xe2\x82b", strings.Repeat("\xc2\x80\xff", 50)} {
		wantS, wantO := plainly(s, forms())
		scalars, offsets := Decode(s)
		spoil(scalars)
		if !slices.Equal(offsets, wantO) {
			t.Errorf("P2: %x: offsets of spoilt scalars: %v", s, offsets)
		}
		decodes(t, s, wantS, wantO)
		scalars, offsets = Decode(s)
		spoil(offsets)
		if !slices.Equal(scalars, wantS) {
			t.Errorf("P2: %x: scalars of spoilt offsets: %x", s, scalars)
		}
		decodes(t, s, wantS, wantO)
	}
}
