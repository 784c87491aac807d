package listsched

import (
	"container/heap"

	"jacquard/api"
)

// Work is a set of tasks that follow each other without repetition: task i needs a resource by Needs[i] (tasks behind the end of Needs need none) and starts at Early[i] at the earliest.
type Work struct {
	Early []int
	Arcs  []api.Arc
	Needs []api.Need
	Res   []api.Resource
}

// queue is a heap of tasks; the one with the greatest rank comes first, of several the least one.
type queue struct{ tasks, rank []int }

func (q *queue) Len() int { return len(q.tasks) }
func (q *queue) Less(i, j int) bool {
	a, b := q.tasks[i], q.tasks[j]
	return q.rank[a] > q.rank[b] || q.rank[a] == q.rank[b] && a < b
}
func (q *queue) Swap(i, j int) { q.tasks[i], q.tasks[j] = q.tasks[j], q.tasks[i] }
func (q *queue) Push(x any)    { q.tasks = append(q.tasks, x.(int)) }
func (q *queue) Pop() any {
	last := q.tasks[len(q.tasks)-1]
	q.tasks = q.tasks[:len(q.tasks)-1]
	return last
}

// placer places tasks cycle by cycle. A task waits for as many arcs as waits says; time is the cycle from which on it may start; free has, for each resource and unit, the cycle in which the unit becomes free.
type placer struct {
	w           Work
	next        [][]api.Arc
	waits, time []int
	free        [][]int
	start, unit []int
}

// Contest reports for each resource whether more tasks need it than it has units.
func Contest(needs []api.Need, res []api.Resource) []bool {
	count := make([]int, len(res))
	for _, n := range needs {
		if n.Res >= 0 {
			count[n.Res]++
		}
	}
	contested := make([]bool, len(res))
	for r := range res {
		contested[r] = count[r] > res[r].Count
	}
	return contested
}

// Place starts each task as soon as its arcs and a unit permit; of several that are ready, the one with the longest path behind it comes first. false if the arcs have a cycle.
func Place(w Work) (start, unit []int, ok bool) {
	p := newPlacer(w)
	rank, ok := p.ranks()
	if !ok {
		return nil, nil, false
	}
	ready := &queue{rank: rank}
	later := map[int][]int{}
	var times moments
	release := func(i int) {
		if _, known := later[p.time[i]]; !known {
			times.add(p.time[i])
		}
		later[p.time[i]] = append(later[p.time[i]], i)
	}
	for i, n := range p.waits {
		if n == 0 {
			release(i)
		}
	}
	for len(times) > 0 {
		t := times.next()
		for _, i := range later[t] {
			heap.Push(ready, i)
		}
		delete(later, t)
		var held []int
		for ready.Len() > 0 {
			i := heap.Pop(ready).(int)
			if !p.take(i, t) {
				held = append(held, i)
				continue
			}
			for _, a := range p.next[i] {
				p.time[a.To] = max(p.time[a.To], t+a.Lat)
				if p.waits[a.To]--; p.waits[a.To] == 0 && p.time[a.To] <= t {
					heap.Push(ready, a.To)
				} else if p.waits[a.To] == 0 {
					release(a.To)
				}
			}
		}
		for _, i := range held {
			p.time[i] = p.freeAt(i)
			release(i)
		}
	}
	return p.start, p.unit, true
}

// moments are cycles in which something happens, the next one last.
type moments []int

func (m *moments) add(t int) {
	l := append(*m, t)
	for i := len(l) - 1; i > 0 && l[i-1] < l[i]; i-- {
		l[i-1], l[i] = l[i], l[i-1]
	}
	*m = l
}

func (m *moments) next() int {
	l := *m
	*m = l[:len(l)-1]
	return l[len(l)-1]
}

func newPlacer(w Work) *placer {
	n := len(w.Early)
	p := &placer{w: w, next: make([][]api.Arc, n), waits: make([]int, n), time: make([]int, n), start: make([]int, n), unit: make([]int, n)}
	copy(p.time, w.Early)
	for _, a := range w.Arcs {
		p.next[a.From] = append(p.next[a.From], a)
		p.waits[a.To]++
	}
	for i := range p.unit {
		p.unit[i] = -1
	}
	count := make([]int, len(w.Res))
	for _, n := range w.Needs {
		if n.Res >= 0 {
			count[n.Res]++
		}
	}
	// No more units are used than there are tasks for them.
	for r, c := range count {
		p.free = append(p.free, make([]int, min(c, w.Res[r].Count)))
	}
	return p
}

// ranks returns the length of the longest path behind each task; false if the arcs have a cycle.
func (p *placer) ranks() ([]int, bool) {
	const (
		open = 1 + iota
		closed
	)
	rank := make([]int, len(p.next))
	state := make([]int, len(p.next))
	ok := true
	var visit func(i int)
	visit = func(i int) {
		state[i] = open
		if i < len(p.w.Needs) {
			rank[i] = p.w.Needs[i].Busy
		}
		for _, a := range p.next[i] {
			if state[a.To] == 0 {
				visit(a.To)
			}
			ok = ok && state[a.To] != open
			rank[i] = max(rank[i], rank[a.To]+a.Lat)
		}
		state[i] = closed
	}
	for i := range p.next {
		if state[i] == 0 {
			visit(i)
		}
	}
	return rank, ok
}

// take starts a task in a cycle, if a unit is free.
func (p *placer) take(i, t int) bool {
	if i < len(p.w.Needs) && p.w.Needs[i].Res >= 0 {
		n := p.w.Needs[i]
		units := p.free[n.Res]
		found := false
		for u := range units {
			if units[u] <= t && (!found || units[u] < units[p.unit[i]]) {
				p.unit[i], found = u, true
			}
		}
		if !found {
			return false
		}
		units[p.unit[i]] = t + n.Busy
	}
	p.start[i] = t
	return true
}

// freeAt returns the first cycle in which a unit for a task becomes free.
func (p *placer) freeAt(i int) int {
	units := p.free[p.w.Needs[i].Res]
	first := units[0]
	for _, t := range units {
		first = min(first, t)
	}
	return first
}
