package table

// mostItems is how many a list may have.
const mostItems = 100000

// within tells whether all of l are least to most.
func within(least, most int, l ...int) bool {
	for _, n := range l {
		if n < least || n > most {
			return false
		}
	}
	return true
}

// fits tells whether lists may be as long as that: none of a table is empty.
func fits(sizes ...int) bool {
	return within(1, mostItems, sizes...)
}
