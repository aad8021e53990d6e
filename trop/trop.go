// Package trop: costs. See doc/01-trop.md.
package trop

import (
	"strconv"
	"strings"

	"hyphen/api"
)

// Add tells what both cost together.
func Add(a, b int) int {
	// Held against what is left up to Inf, so that no sum can wrap round.
	if a >= api.Inf-b {
		return api.Inf
	}
	return a + b
}

// Min tells the least cost.
func Min(l ...int) int {
	least := api.Inf
	for _, n := range l {
		if n < least {
			least = n
		}
	}
	return least
}

// Both tells, category by category, what the cheaper of two ways costs.
func Both(a, b api.Vec) api.Vec {
	var v api.Vec
	for i := range v {
		v[i] = Min(a[i], b[i])
	}
	return v
}

// Plus tells, category by category, what v costs when n is paid, too.
func Plus(v api.Vec, n int) api.Vec {
	// What is wholly forbidden stays so, whatever is paid.
	if v == None() {
		return v
	}
	for i := range v {
		v[i] = Add(v[i], n)
	}
	return v
}

// None tells that breaking is forbidden in every category.
func None() api.Vec {
	return api.Vec{api.Inf, api.Inf, api.Inf}
}

// Text writes v for people to read.
func Text(v api.Vec) string {
	var words [len(v)]string
	for i, n := range v {
		words[i] = word(n)
	}
	return strings.Join(words[:], " ")
}

// word writes one cost.
func word(n int) string {
	if n >= api.Inf {
		return "-"
	}
	return strconv.Itoa(n)
}
