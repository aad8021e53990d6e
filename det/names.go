package det

// more marks a byte of a number that is not its last one; bitsPerByte is what each has beside that.
const (
	more        = 0x80
	bitsPerByte = 7
)

// names numbers rows of numbers as they first come.
type names struct {
	rows    []string // as write writes them: there may be very many, most of them of small numbers
	numbers map[string]int
	room    []byte // kept from row to row: most that are asked for were met before, and take no new memory
}

// newNames has met none.
func newNames() names {
	return names{numbers: map[string]int{}}
}

// number tells row's, a new one where it was not met yet.
func (n *names) number(row ...int) int {
	n.room = write(n.room[:0], row...)
	at, is := n.numbers[string(n.room)]
	if !is {
		at = len(n.rows)
		written := string(n.room)
		n.numbers[written] = at
		n.rows = append(n.rows, written)
	}
	return at
}

// row tells that of number at.
func (n *names) row(at int) []int {
	return read(n.rows[at])
}

// all tells what step tells of each row, those too that step itself numbers; false: they are more than most.
func (n *names) all(most int, step func(row []int) []int) ([][]int, bool) {
	var steps [][]int
	for at := 0; at < len(n.rows); at++ {
		if len(n.rows) > most {
			return nil, false
		}
		steps = append(steps, step(n.row(at)))
	}
	return steps, true
}

// write writes row behind l.
func write(l []byte, row ...int) []byte {
	for _, n := range row {
		rest := uint64(n)
		for ; rest >= more; rest >>= bitsPerByte {
			l = append(l, byte(rest)|more)
		}
		l = append(l, byte(rest))
	}
	return l
}

// read reads what write wrote.
func read(s string) []int {
	var row []int
	n, shift := uint64(0), 0
	for i := range len(s) {
		n |= uint64(s[i]&^more) << shift
		shift += bitsPerByte
		if s[i] < more {
			row = append(row, int(n))
			n, shift = 0, 0
		}
	}
	return row
}
