package side

import (
	"strings"
	"testing"

	"hyphen/api"
)

// sized holds what Size tells.
func sized(t *testing.T, x api.Rex, want int) {
	t.Helper()
	if got := Size(x); got != want {
		t.Errorf("P701: Size: %d, not %d", got, want)
	}
}

// Each kind of pattern, as it is read (P701).
func TestSizeOfEachKind(t *testing.T) {
	for pattern, want := range map[string]int{
		"": 0, "()": 0, "a": 1, "o": 1, ".": 1, "any": 1, "a b": 2, "a a a": 3, "a | a": 2, "a | ": 1, "() | ()": 0,
		"a*": 1, "(a b)*": 2, "()*": 0, "a**": 1, "a @ 5": 1, "() @ 5": 0, "(a b) @ 5 @ 6": 2,
		"a{0,0}": 0, "(a b){0,0}": 0, "a{0,1}": 1, "a{1,1}": 1, "a{0,5}": 5, "a{3,5}": 5, "a{5,5}": 5, "(){12,12}": 0, "(a b){2,3}": 6, "(a*){2,3}": 3,
		"a{2,3}{0,4}": 12, "((a b){0,2} | . .{1,3}){0,3} b": 25, "a{12,12}{0,0}{12,12}": 0, "a{0,12}{1,12}{2,12}": 1728,
	} {
		x, _ := left(t, pattern)
		if got := Size(x); got != want {
			t.Errorf("P701: Size of %s: %d, not %d", pattern, got, want)
		}
	}
	x, _ := left(t, strings.Repeat("a ", 1700))
	sized(t, x, 1700)
}

// ofSize is a pattern of n positions: repeats within repeats, side by side.
func ofSize(n int) api.Rex {
	x := none()
	for deep := 0; n > 0; deep++ {
		for range n % 12 {
			x = cat(x, nested(dot(), 12, 12, deep))
		}
		n /= 12
	}
	return x
}

// Up to 10^9, and no further (P701).
func TestSizeStops(t *testing.T) {
	const most = 1000000000
	for _, n := range []int{0, 1, 11, 12, 13, 120, 121, 999, 123456789, most - 2, most - 1, most} {
		sized(t, ofSize(n), n)
	}
	for _, n := range []int{most + 1, most + 2, 2*most - 1, 2 * most, 12 * most} {
		sized(t, ofSize(n), most)
	}
	sized(t, cat(ofSize(most), ofSize(most)), most)
	sized(t, alt(ofSize(most-1), dot()), most)
	sized(t, alt(ofSize(most-1), none()), most-1)
	sized(t, alt(ofSize(most-1), ofSize(2)), most)
	sized(t, many0(ofSize(most+5)), most)
	sized(t, cost(ofSize(most+5), 3), most)
	sized(t, repeat(ofSize(most), 1, 1), most)
	sized(t, repeat(ofSize(most), 0, 0), 0)
	sized(t, repeat(ofSize(most/10), 0, 10), most)
	sized(t, repeat(ofSize(most/10), 0, 11), most)
	sized(t, repeat(ofSize(most/10), 0, 9), most/10*9)
	sized(t, repeat(ofSize(most/10-1), 0, 10), most-10)
}

// Repeats within repeats, however deep: no number wraps round (P701, P1).
func TestSizeOfRepeatsWithinRepeats(t *testing.T) {
	n := 1
	for deep := range 1000 {
		sized(t, nested(set("a"), 0, 12, deep), n)
		n = min(12*n, 1000000000)
	}
	for deep, want := range map[int]int{29: 1 << 29, 30: 1000000000, 63: 1000000000, 64: 1000000000, 999: 1000000000} {
		sized(t, nested(set("a"), 2, 2, deep), want)
	}
	sized(t, nested(none(), 12, 12, 999), 0)
	sized(t, nested(set("a"), 1, 1, 999), 1)
	sized(t, nested(nested(set("a"), 12, 12, 500), 0, 0, 1), 0)
	sized(t, nested(nested(repeat(set("a"), 0, 0), 12, 12, 500), 12, 12, 400), 0)
}
