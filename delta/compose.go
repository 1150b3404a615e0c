package delta

import "strings"

// window is the length of the pieces of a base that are looked for in a target. It is greater than what copying one
// takes, which is up to 7 bytes, with up to 4 for the new bytes that it parts.
const window = 16

// match is a part of a target that is a part of the base too.
type match struct {
	base, target int // where it is
	size         int
}

// compose returns instructions that make a target: parts of the base, as far as they are found, and new bytes.
func compose(base, target string) string {
	if at := strings.Index(base, target); at >= 0 {
		return copyFrom(at, len(target))
	}
	x := windows(base)
	var b strings.Builder
	done := 0 // bytes of the target for which there are instructions
	for i := 0; i+window <= len(target); {
		at, ok := x[target[i:i+window]]
		if !ok {
			i++
			continue
		}
		m := match{at, i, window}.grow(base, target, done)
		b.WriteString(add(target[done:m.target]))
		b.WriteString(copyFrom(m.base, m.size))
		done = m.target + m.size
		i = done
	}
	b.WriteString(add(target[done:]))
	return b.String()
}

// windows returns where in a base its consecutive windows are; of equal ones the first, as most bytes follow it.
func windows(base string) map[string]int {
	x := make(map[string]int, len(base)/window)
	for i := 0; i+window <= len(base); i += window {
		w := base[i : i+window]
		if _, ok := x[w]; !ok {
			x[w] = i
		}
	}
	return x
}

// grow returns the match with the equal bytes on both sides of it; those of the target that are done stay outside.
func (m match) grow(base, target string, done int) match {
	for m.base > 0 && m.target > done && base[m.base-1] == target[m.target-1] {
		m.base--
		m.target--
		m.size++
	}
	for m.base+m.size < len(base) && m.target+m.size < len(target) && base[m.base+m.size] == target[m.target+m.size] {
		m.size++
	}
	return m
}
