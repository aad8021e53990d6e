package table

import (
	"math"
	"math/big"
	"slices"
	"testing"
)

// restAtOnce tells the sum of b, the rest taken once, of a number that is as long as it needs to be.
func restAtOnce(b []byte) int {
	sum := big.NewInt(1)
	for _, c := range b {
		sum.Mul(sum, big.NewInt(31)).Add(sum, big.NewInt(int64(c)))
	}
	return int(sum.Mod(sum, big.NewInt(1000003)).Int64())
}

// Known sums: of no bytes, of one, of some (P1201).
func TestKnownSums(t *testing.T) {
	for _, x := range []struct {
		b    []byte
		want int
	}{
		{nil, 1},
		{[]byte{}, 1},
		{[]byte{0}, 31},
		{[]byte{1}, 32},
		{[]byte{255}, 286},
		{[]byte{0, 0}, 961},
		{[]byte("a"), 128},
		{[]byte("ab"), 4066},
		{[]byte("ba"), 4096},
		{[]byte{0, 0, 0, 0}, 923521},
		{[]byte{0, 0, 0, 0, 0}, 28629151 % 1000003},
	} {
		if got := Sum(x.b); got != x.want {
			t.Errorf("P1201: Sum of %x: %d, not %d", x.b, got, x.want)
		}
	}
}

// Sums that come to the rest itself, and to one less: 923521, of four bytes 0, and what these add (P1201).
func TestSumAtTheRest(t *testing.T) {
	for _, x := range []struct {
		b    []byte
		want int
	}{
		{[]byte{2, 17, 18, 4}, 1000002},
		{[]byte{2, 17, 18, 5}, 0},
		{[]byte{2, 17, 18, 6}, 1},
		{[]byte{2, 17, 18, 5, 0}, 0},
		{[]byte{2, 17, 18, 5, 7}, 7},
	} {
		if got := Sum(x.b); got != x.want || restAtOnce(x.b) != x.want {
			t.Errorf("P1201: Sum of %v: %d, %d, not %d", x.b, got, restAtOnce(x.b), x.want)
		}
	}
}

// Thrown bytes, and each of them turned (P1201, P2, P3).
func TestThrownSums(t *testing.T) {
	d := &dice{5}
	for range 300 {
		b := make([]byte, d.of(60))
		for i := range b {
			b[i] = byte(d.of(256))
		}
		was := slices.Clone(b)
		sum := Sum(b)
		if want := restAtOnce(b); sum != want || sum < 0 || sum >= 1000003 {
			t.Fatalf("P1201: Sum of %x: %d, not %d", b, sum, want)
		}
		if !slices.Equal(b, was) || Sum(b) != sum {
			t.Fatalf("P2, P3: Sum of %x left %x", was, b)
		}
		for i := range b {
			b[i] ^= byte(1 + d.of(255))
			if got := Sum(b); got == sum || got != restAtOnce(b) {
				t.Fatalf("P1201: Sum of %x: %d, as of %x", b, got, was)
			}
			b[i] = was[i]
		}
	}
}

// Many bytes, all as large as they can be (P1201).
func TestSumOfMany(t *testing.T) {
	b := slices.Repeat([]byte{math.MaxUint8}, 20000)
	for _, size := range []int{100, 4001, 20000} {
		if got, want := Sum(b[:size]), restAtOnce(b[:size]); got != want {
			t.Errorf("P1201: Sum of %d bytes: %d, not %d", size, got, want)
		}
	}
}
