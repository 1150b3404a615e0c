package graph

import "container/heap"

// Log returns all of Reach(from), children before their parents, those of a greater time first where there is a choice.
func (g *Graph) Log(from ...string) []string {
	if g == nil {
		return nil
	}
	return ids(g.sorted(g.walk(from)))
}

// sorted returns the nodes of l in the order of a log. l has each node once, and all that is reachable from it; nodes of a cycle, and their ancestors, are omitted.
func (g *Graph) sorted(l []*node) []*node {
	// A parent that a node has several times is counted each time, here as below.
	waits := make([]int, len(g.nodes))
	for _, x := range l {
		for _, p := range x.parents {
			waits[p.at]++
		}
	}
	var free queue
	for _, x := range l {
		if waits[x.at] == 0 {
			heap.Push(&free, x)
		}
	}
	var done []*node
	for len(free) > 0 {
		x := heap.Pop(&free).(*node)
		done = append(done, x)
		for _, p := range x.parents {
			if waits[p.at]--; waits[p.at] == 0 {
				heap.Push(&free, p)
			}
		}
	}
	return done
}

// queue is a heap of the nodes that a log may go on with: first the one with the greatest time, and of several the one with the least ID.
type queue []*node

func (q queue) Len() int { return len(q) }

func (q queue) Less(i, j int) bool {
	if q[i].time != q[j].time {
		return q[i].time > q[j].time
	}
	return q[i].id < q[j].id
}

func (q queue) Swap(i, j int) { q[i], q[j] = q[j], q[i] }

func (q *queue) Push(x any) { *q = append(*q, x.(*node)) }

func (q *queue) Pop() any {
	l := *q
	x := l[len(l)-1]
	*q = l[:len(l)-1]
	return x
}
