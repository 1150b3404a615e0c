package listdiff

import "stemma/api"

// compare passes the edits that make b of a to each, in order, with the index of the item of b that is next ahead of it. ErrLong, and no edit, if a list is too long.
func compare(a, b []string, each func(e Edit, j int)) api.Errno {
	if len(a) > api.MaxItems || len(b) > api.MaxItems {
		return api.ErrLong
	}
	x, y := numbered(a, b)
	c := lengths(x, y)
	i, j := 0, 0
	for i < len(x) || j < len(y) {
		switch {
		case i < len(x) && j < len(y) && x[i] == y[j]:
			each(Edit{Keep, a[i]}, j)
			i++
			j++
		case j == len(y) || i < len(x) && c[i+1][j] >= c[i][j+1]:
			each(Edit{Drop, a[i]}, j)
			i++
		default:
			each(Edit{Add, b[j]}, j)
			j++
		}
	}
	return api.OK
}

// numbered returns the items of both lists as numbers, equal ones for equal items: each of a is compared with each of b, which takes too long for texts.
func numbered(a, b []string) (x, y []int) {
	known := map[string]int{}
	number := func(s string) int {
		n, ok := known[s]
		if !ok {
			n = len(known)
			known[s] = n
		}
		return n
	}
	for _, s := range a {
		x = append(x, number(s))
	}
	for _, s := range b {
		y = append(y, number(s))
	}
	return x, y
}

// lengths returns, under i and j, the length of a longest common subsequence of x from i on and y from j on: at most MaxItems, so that 16 bits hold it.
func lengths(x, y []int) [][]uint16 {
	c := make([][]uint16, len(x)+1)
	for i := range c {
		c[i] = make([]uint16, len(y)+1)
	}
	for i := len(x) - 1; i >= 0; i-- {
		here, below := c[i], c[i+1]
		for j := len(y) - 1; j >= 0; j-- {
			if x[i] == y[j] {
				here[j] = below[j+1] + 1
			} else {
				here[j] = max(below[j], here[j+1])
			}
		}
	}
	return c
}
