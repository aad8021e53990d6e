package seg

import (
	"slices"
	"strings"
	"testing"

	"hyphen/api"
	"hyphen/trop"
)

// A new cursor is at place 0, and has as many places as Segment tells (P1302).
func TestNew(t *testing.T) {
	for s, size := range map[string]int{"": 1, "a": 2, "a b": 4, "\xe2\x82a": 3, "\U0001f600": 2, strings.Repeat("a", 4000): 4001} {
		c := New(pairs(), s)
		row, _ := Segment(pairs(), s)
		if c.Len() != size || len(row) != size {
			t.Errorf("P1302: Len of %.20q: %d, not %d", s, c.Len(), size)
		}
		stands(t, c, 0, row[0])
	}
}

// Of what Segment refuses there are no places: no call goes anywhere (P1302).
func TestNoPlaces(t *testing.T) {
	bad := many()
	bad.F.Next[1][0] = 2
	for why, c := range map[string]*Cursor{
		"no table":           New(api.Table{}, "aab"),
		"a table not right":  New(bad, ""),
		"a text too long":    New(pairs(), strings.Repeat("a", 4001)),
		"both":               New(api.Table{}, strings.Repeat("a", 4001)),
		"a cursor of no New": {},
	} {
		for range 2 {
			if c.Len() != 0 || c.Next() || c.Prev() {
				t.Errorf("P1302: %s: Len %d, or it goes", why, c.Len())
			}
			stands(t, c, 0, trop.None())
			for _, at := range wild() {
				if c.Seek(at) {
					t.Errorf("P1302: %s: Seek to %d", why, at)
				}
				stands(t, c, 0, trop.None())
				for _, hi := range wild() {
					if best, is := c.Best(at, hi, 0); is || best != 0 {
						t.Errorf("P1302: %s: Best of %d to %d: %d, %v", why, at, hi, best, is)
					}
				}
			}
		}
	}
}

// One place: there is none on, none back (P1302).
func TestOnePlace(t *testing.T) {
	x, s := priced(api.Vec{4, 5, api.Inf})
	c := New(x, s)
	for range 2 {
		if c.Len() != 1 || c.Next() || c.Prev() || c.Seek(1) || c.Seek(-1) || !c.Seek(0) {
			t.Errorf("P1302: of one place: %d", c.Len())
		}
		stands(t, c, 0, api.Vec{4, 5, api.Inf})
	}
	for cat, want := range []bool{true, true, false} {
		if at, is := c.Best(0, 0, cat); at != 0 || is != want {
			t.Errorf("P1302: Best of one place, %d: %d, %v", cat, at, is)
		}
	}
}

// On to the last place, where it stays, and back to the first one, where it stays (P1302).
func TestNextAndPrev(t *testing.T) {
	want := pairsRow(1, 2, 1, 3, 2)
	c := New(pairs(), "a b\xff ")
	for range 3 {
		for at, v := range want {
			stands(t, c, at, v)
			if is := c.Next(); is != (at < 5) {
				t.Fatalf("P1302: Next at %d: %v", at, is)
			}
		}
		for range 3 {
			stands(t, c, 5, want[5])
			if c.Next() {
				t.Fatal("P1302: Next at the last place: true")
			}
		}
		for at := 5; at >= 0; at-- {
			stands(t, c, at, want[at])
			if is := c.Prev(); is != (at > 0) {
				t.Fatalf("P1302: Prev at %d: %v", at, is)
			}
		}
		for range 3 {
			stands(t, c, 0, want[0])
			if c.Prev() {
				t.Fatal("P1302: Prev at the first place: true")
			}
		}
	}
}

// From each place to each one, and to places that are none, where it stays (P1302).
func TestSeek(t *testing.T) {
	want := pairsRow(1, 2, 1, 3)
	c := New(pairs(), "a b\xff")
	for from := range want {
		for _, to := range append(wild(), -1, 0, 1, 2, 3, 4, 5, 6) {
			if !c.Seek(from) {
				t.Fatalf("P1302: Seek to %d: false", from)
			}
			stands(t, c, from, want[from])
			is := to >= 0 && to < 5
			if got := c.Seek(to); got != is {
				t.Fatalf("P1302: Seek from %d to %d: %v", from, to, got)
			}
			at := from
			if is {
				at = to
			}
			stands(t, c, at, want[at])
			if c.Next() != (at < 4) {
				t.Fatalf("P1302: Next, sought from %d to %d", from, to)
			}
			if at < 4 {
				stands(t, c, at+1, want[at+1])
			}
		}
	}
}

// Long texts: the last place is where the text ends (P1302).
func TestLongWay(t *testing.T) {
	c := New(pairs(), strings.Repeat("a", 3999)+" ")
	want := pairsRow(append(slices.Repeat([]int{1}, 3999), 2)...)
	if !c.Seek(4000) || c.Next() || c.Seek(4001) {
		t.Error("P1302: the last of 4001 places")
	}
	stands(t, c, 4000, want[4000])
	for at := 3999; at >= 0; at-- {
		if !c.Prev() {
			t.Fatalf("P1302: Prev at %d: false", at+1)
		}
		stands(t, c, at, want[at])
	}
	// A line costs 1 at the beginning, 11 between two others, 12 ahead of the blank, 20 behind it.
	for _, x := range []struct{ lo, hi, want int }{{0, 4000, 0}, {1, 4000, 3998}, {1, 3998, 3998}, {3999, 4000, 3999}, {4000, 4000, 4000}} {
		if at, is := c.Best(x.lo, x.hi, 0); !is || at != x.want {
			t.Errorf("P1302: Best of %d to %d: %d, %v", x.lo, x.hi, at, is)
		}
	}
}
