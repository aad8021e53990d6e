package table

import (
	"hyphen/api"
)

// cursor takes numbers off bytes, from their beginning on.
type cursor struct {
	bytes  []byte
	at     int
	broken bool // something was asked for that is not there
}

// fail gives the rest of the bytes up: whatever is asked for from here on is not there.
func (c *cursor) fail() {
	c.at, c.broken = len(c.bytes), true
}

// left tells how many numbers, at most, are left.
func (c *cursor) left() int {
	return (len(c.bytes) - c.at) / bytesPerNumber
}

// take takes one. What is too large for an int becomes one below 0, as which no number of a table is written.
func (c *cursor) take() int {
	if c.left() == 0 {
		c.fail()
		return 0
	}
	n, to := 0, c.at+bytesPerNumber
	for _, b := range c.bytes[c.at:to] {
		n = n<<bitsPerByte | int(b)
	}
	c.at = to
	return n
}

// isSealed tells whether what is left is the sum of all that was taken, and no more.
func (c *cursor) isSealed() bool {
	sum := Sum(c.bytes[:c.at])
	return c.take() == sum && !c.broken && c.at == len(c.bytes)
}

// reader takes lists off bytes, as writer puts them.
type reader struct {
	cursor
}

// many takes how many a list has. Each takes a number, or more: none is believed to have more than what is left, so that no room is made for what is not there.
func (r *reader) many() int {
	n := r.take()
	if !within(0, r.left(), n) {
		r.fail()
		return 0
	}
	return n
}

// list takes one of numbers.
func (r *reader) list() []int {
	l := make([]int, r.many())
	for i := range l {
		l[i] = r.take()
	}
	return l
}

// lists takes one of lists.
func (r *reader) lists() [][]int {
	rows := make([][]int, r.many())
	for i := range rows {
		rows[i] = r.list()
	}
	return rows
}

// vecs takes a list of Vecs.
func (r *reader) vecs() []api.Vec {
	l := make([]api.Vec, r.many())
	for i := range l {
		l[i] = api.Vec{r.take(), r.take(), r.take()}
	}
	return l
}

// emits takes one of lists of them.
func (r *reader) emits() [][]api.Vec {
	emits := make([][]api.Vec, r.many())
	for i := range emits {
		emits[i] = r.vecs()
	}
	return emits
}

// table takes all of one.
func (r *reader) table() api.Table {
	var t api.Table
	t.Cuts, t.Letters = r.list(), r.list()
	t.B.Next, t.B.Out = r.lists(), r.list()
	t.F.Next, t.F.Emit = r.lists(), r.emits()
	return t
}
