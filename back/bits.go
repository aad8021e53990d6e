package back

// perWord is how many bits stand in one word.
const perWord = 64

// bits is which of some are, a bit each.
type bits []uint64

// words tells how many words so many bits take.
func words(size int) int {
	return (size + perWord - 1) / perWord
}

// add says of at that it is.
func (b bits) add(at int) {
	b[at/perWord] |= 1 << (at % perWord)
}

// has tells whether at is.
func (b bits) has(at int) bool {
	return b[at/perWord]>>(at%perWord)&1 == 1
}

// join adds those of all of l, none of them longer than b.
func (b bits) join(l ...bits) {
	for _, a := range l {
		for i, word := range a {
			b[i] |= word
		}
	}
}

// share makes b those that are in both, each as long as b.
func (b bits) share(x, y bits) {
	for i := range b {
		b[i] = x[i] & y[i]
	}
}

// meets tells whether one is in both.
func (b bits) meets(a bits) bool {
	for i, word := range a {
		if b[i]&word != 0 {
			return true
		}
	}
	return false
}

// key writes b behind l: as bytes it can be found by.
func (b bits) key(l []byte) []byte {
	for _, word := range b {
		for range perWord / 8 {
			l = append(l, byte(word))
			word >>= 8
		}
	}
	return l
}
