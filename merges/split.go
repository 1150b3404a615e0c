package merges

import "math"

const maxWord = 4096 // bytes of a word that is split

const (
	noRank  = math.MaxInt // of two parts that aren't a pair of the list
	unknown = -1          // the rank of two parts that weren't looked up
)

// parts of a word, side by side.
type parts struct {
	word string
	from []int // where each part begins, and behind them where the word ends
	rank []int // of each part with the next one, kept since a step changes only a few; the last part's counts for nothing
}

// Split returns the tokens of a word by the pairs of l, of which earlier ones go before later ones.
func Split(l []Pair, word string) []string {
	if word == "" || len(word) > maxWord {
		return nil
	}
	p := bytesOf(word)
	ranks := ranksOf(l)
	for {
		rank := p.least(ranks)
		if rank == noRank {
			return p.texts()
		}
		p.apply(l[rank])
	}
}

// ranksOf returns where each pair occurs first in l.
func ranksOf(l []Pair) map[Pair]int {
	ranks := make(map[Pair]int, len(l))
	for i, p := range l {
		if _, ok := ranks[p]; !ok {
			ranks[p] = i
		}
	}
	return ranks
}

// bytesOf returns the parts of a word of which each byte is one.
func bytesOf(word string) *parts {
	p := &parts{word: word, from: make([]int, len(word)+1), rank: make([]int, len(word))}
	for i := range p.from {
		p.from[i] = i
	}
	for i := range p.rank {
		p.rank[i] = unknown
	}
	return p
}

// text returns part i.
func (p *parts) text(i int) string {
	return p.word[p.from[i]:p.from[i+1]]
}

// two returns part i and the next one.
func (p *parts) two(i int) Pair {
	return Pair{A: p.text(i), B: p.text(i + 1)}
}

// texts returns all parts.
func (p *parts) texts() []string {
	l := make([]string, len(p.rank))
	for i := range l {
		l[i] = p.text(i)
	}
	return l
}

// least returns the least rank of two adjacent parts.
func (p *parts) least(ranks map[Pair]int) int {
	least := noRank
	for i, rank := range p.rank[:len(p.rank)-1] {
		if rank == unknown {
			rank = p.look(ranks, i)
		}
		least = min(least, rank)
	}
	return least
}

// look notes and returns the rank of part i and the next one.
func (p *parts) look(ranks map[Pair]int, i int) int {
	rank, ok := ranks[p.two(i)]
	if !ok {
		rank = noRank
	}
	p.rank[i] = rank
	return rank
}

// apply makes one part of each two that are the pair, from the first part on.
func (p *parts) apply(pair Pair) {
	last := len(p.rank) - 1
	n := 0
	for i := 0; i <= last; i++ {
		p.from[n] = p.from[i]
		if i < last && p.two(i) == pair {
			i++
			p.rank[i] = unknown
			p.rank[max(n-1, 0)] = unknown
		}
		p.rank[n] = p.rank[i]
		n++
	}
	p.from[n] = len(p.word)
	p.from, p.rank = p.from[:n+1], p.rank[:n]
}
