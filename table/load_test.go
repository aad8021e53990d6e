package table

import (
	"encoding/binary"
	"fmt"
	"math"
	"runtime"
	"slices"
	"testing"

	"hyphen/api"
)

// Known bytes (P1202).
func TestKnownBytes(t *testing.T) {
	inf := api.Inf
	for _, x := range []struct {
		t    api.Table
		want []int
	}{
		{one(), []int{1, 0, 1, 0, 1, 1, 0, 1, 0, 1, 1, 0, 1, 1, 1, 2, inf}},
		{many(), []int{
			5, 0, 97, 98, 101, 0xe000, 5, 0, 1, 0, 2, 1,
			3, 3, 0, 1, 2, 3, 1, 1, 0, 3, 2, 0, 0, 3, 0, 2, 1,
			2, 3, 0, 1, 0, 3, 1, 1, 0,
			2, 3, 5, 0, inf, inf, 1, 2, 0, 0, 0, 3, 3, 4, 5, 6, 7, 8, inf - 1, inf, 9,
		}},
	} {
		b := Save(x.t)
		var got []int
		for c := range slices.Chunk(b, 8) {
			got = append(got, int(binary.BigEndian.Uint64(c)))
		}
		sum := summed(b[:len(b)-8])
		if len(b)%8 != 0 || !slices.Equal(got, append(x.want, sum)) {
			t.Errorf("P1202: Save of %v: %v, not %v", x.t, got, append(x.want, sum))
		}
		there(t, x.t)
	}
}

// No bytes, and bytes that are too few for anything (P1202).
func TestLoadOfNothing(t *testing.T) {
	refused(t, nil, "no bytes")
	for size := range 200 {
		refused(t, make([]byte, size), "bytes 0")
		refused(t, slices.Repeat([]byte{255}, size), "bytes 255")
		refused(t, sealed(make([]byte, size)), "bytes 0 and their sum")
		refused(t, sealed(slices.Repeat([]byte{255}, size)), "bytes 255 and their sum")
		refused(t, sealed(bytesOf(slices.Repeat([]int{1}, size))), "numbers 1 and their sum")
	}
}

// Bytes that are cut off, at each place, with their own sum and without one (P1202).
func TestLoadOfCutOff(t *testing.T) {
	for _, x := range []api.Table{one(), many()} {
		b := Save(x)
		for size := range b {
			refused(t, b[:size], "cut off")
			if size != len(b)-8 { // that and its sum are all
				refused(t, sealed(b[:size]), "cut off, and a sum")
			}
			if size < len(b)-8 {
				refused(t, append(slices.Clone(b[:size]), b[len(b)-8:]...), "cut off, and the whole one's sum")
			}
			refused(t, b[len(b)-size:], "the beginning cut off")
		}
	}
}

// Bytes that go on (P1202).
func TestLoadOfMore(t *testing.T) {
	for _, x := range []api.Table{one(), many()} {
		b := Save(x)
		body := b[:len(b)-8]
		for size := 1; size < 20; size++ {
			for _, more := range [][]byte{make([]byte, size), slices.Repeat([]byte{1}, size), b[:size]} {
				refused(t, append(slices.Clone(b), more...), "going on")
				refused(t, append(slices.Clone(more), b...), "something ahead")
				refused(t, sealed(append(slices.Clone(body), more...)), "going on ahead of the sum")
				refused(t, sealed(append(slices.Clone(b), more...)), "going on, and a sum")
			}
		}
		refused(t, append(slices.Clone(b), b...), "twice")
		refused(t, sealed(b), "the sum twice")
		refused(t, sealed(append(slices.Clone(body), body...)), "twice, and one sum")
	}
}

// Each byte turned to each other one (P1202).
func TestLoadOfATurnedByte(t *testing.T) {
	b := Save(many())
	c := slices.Clone(b)
	for i := range b {
		for by := 1; by < 256; by++ {
			c[i] = b[i] + byte(by)
			if x, is := Load(c); is || !isEmpty(x) {
				t.Fatalf("P1202: byte %d turned by %d: %v", i, by, x)
			}
		}
		c[i] = b[i]
	}
	if _, is := Load(c); !is {
		t.Error("P1202: what was turned back is no table")
	}
}

// Sums that are not the one (P1202).
func TestWrongSums(t *testing.T) {
	b := Save(many())
	body := b[:len(b)-8]
	sum := summed(body)
	for _, other := range append(wild(), sum-1, sum+1, -sum, sum+1000003, sum-1000003, sum+1<<32, sum+math.MinInt, Sum(b), Sum(nil)) {
		if other == sum {
			continue
		}
		refused(t, append(slices.Clone(body), bytesOf([]int{other})...), fmt.Sprint("the sum ", other))
	}
	swapped := binary.LittleEndian.AppendUint64(slices.Clone(body), uint64(sum))
	refused(t, swapped, "the sum, the lowest byte first")
	refused(t, append(slices.Clone(body), byte(sum>>16), byte(sum>>8), byte(sum)), "a short sum")
}

// Bytes whose sum is 0, of a table whose last numbers are 0: where these, or the sum, are left out, nothing stands for them (P1202).
func TestNothingIsNoNought(t *testing.T) {
	x := one()
	for left := range 3 {
		x.F.Emit[0][0] = api.Vec{}
		l := told(x)
		l = l[:len(l)-left]
		at := len(l) - 1
		if left == 0 {
			at-- // the last one stays 0
		}
		b := noughtAt(l, at)
		if b == nil || summed(b) != 0 {
			t.Fatalf("P1201: no sum of %v is 0", l)
		}
		refused(t, b, "no sum")
		refused(t, append(slices.Clone(b), 0), "a sum of one byte")
		c := append(slices.Clone(b), make([]byte, 8)...)
		if left > 0 {
			refused(t, c, "a number too few")
			continue
		}
		y, is := Load(c)
		if !is || !slices.Equal(Save(y), c) || !slices.Equal(b, bytesOf(told(y))) {
			t.Errorf("P1203: Load of a sum of 0: %v, %v", y, is)
		}
	}
}

// noughtAt tells l's bytes, one of its numbers another cost, so that the sum is 0.
func noughtAt(l []int, at int) []byte {
	d, ahead := &dice{3}, summed(bytesOf(l[:at]))
	for range 1 << 24 {
		l[at] = d.of(1<<30)<<30 | d.of(1<<30)
		if summedOn(ahead, bytesOf(l[at:])) == 0 {
			return bytesOf(l)
		}
	}
	return nil
}

// Each number turned to those that fit nowhere, with the right sum, held against the words alone: how many a list has, too (P1202).
func TestWrongNumbers(t *testing.T) {
	for _, x := range []api.Table{one(), many()} {
		l := told(x)
		loaded := 0
		for i, n := range l {
			for _, other := range append(wild(), n-1, n+1, n+2, len(l)-i-1, len(l)-i, len(l)-i+1) {
				c := slices.Clone(l)
				c[i] = other
				if loads(t, c) {
					loaded++
				}
			}
		}
		if loaded < len(l) {
			t.Errorf("P1202: only %d loaded", loaded)
		}
	}
}

// Rows of numbers, thrown anew in places, or with one left out or set in (P1202).
func TestThrownNumbers(t *testing.T) {
	d := &dice{67}
	loaded := 0
	for range 30000 {
		l := told(d.table(3, 3))
		for range 1 + d.of(2) {
			i := d.of(len(l))
			switch d.of(6) {
			case 0:
				l = slices.Delete(l, i, i+1)
			case 1:
				l = slices.Insert(l, i, d.of(4))
			case 2:
				l[i] = pick(d, wild()...)
			default:
				l[i] = d.of(4)
			}
		}
		if loads(t, l) {
			loaded++
		}
	}
	if loaded < 3000 {
		t.Errorf("P1202: only %d loaded", loaded)
	}
}

// loads holds Load of numbers, and their sum, against the words alone, and tells whether there is a table.
func loads(t *testing.T, l []int) bool {
	t.Helper()
	b := sealed(bytesOf(l))
	want, is := taken(l)
	if !is {
		refused(t, b, "numbers that are no table")
		return false
	}
	got, is := Load(b)
	if !is || fmt.Sprint(got) != fmt.Sprint(want) || !slices.Equal(Save(got), b) {
		t.Fatalf("P1202: Load of %v: %v, %v, not %v", l, got, is, want)
	}
	return true
}

// taken tells the table that numbers tell, all of them; false: none.
func taken(l []int) (x api.Table, is bool) {
	defer func() {
		// A number that is asked for and is not there, or is no length: no table.
		if recover() != nil {
			x, is = api.Table{}, false
		}
	}()
	number := func() int {
		n := l[0]
		l = l[1:]
		return n
	}
	list := func() []int {
		size := number()
		row := slices.Clone(l[:size:size])
		l = l[size:]
		return row
	}
	lists := func() (next [][]int) {
		size := number()
		_ = l[:size]
		for range size {
			next = append(next, list())
		}
		return next
	}
	x.Cuts, x.Letters = list(), list()
	x.B.Next = lists()
	x.B.Out = list()
	x.F.Next = lists()
	for range number() {
		var vecs []api.Vec
		for range number() {
			vecs = append(vecs, api.Vec{number(), number(), number()})
		}
		x.F.Emit = append(x.F.Emit, vecs)
	}
	return x, len(l) == 0 && rightly(x)
}

// A list that is told to have more than what is left takes neither room nor time, whatever it is a list of (P1, P1202).
func TestListsThatAreNotThere(t *testing.T) {
	l := told(many())
	for i := range l {
		for _, size := range []int{len(l) - i, 1000, 1 << 26, 1 << 31, 1 << 40, 1 << 62, math.MaxInt, math.MinInt, -1, -2} {
			c := slices.Clone(l)
			c[i] = size
			b := sealed(bytesOf(c))
			if room := roomOf(func() { Load(b) }); room > 100000 {
				t.Fatalf("P1202: number %d is %d: Load makes %d bytes", i, size, room)
			}
		}
	}
}

// roomOf tells how many bytes a call makes.
func roomOf(call func()) uint64 {
	var before, behind runtime.MemStats
	runtime.ReadMemStats(&before)
	call()
	runtime.ReadMemStats(&behind)
	return behind.TotalAlloc - before.TotalAlloc
}
