package modsched

import (
	"math"
	"slices"

	"jacquard/api"
	"jacquard/dataflow"
	"jacquard/listsched"
)

// never is the time of a node to which no arc has led yet.
const never = math.MinInt32

// search looks for a schedule with an interval: slots and units of the contested instructions are fixed one after the other.
type search struct {
	f      Flow
	ii     int
	source int
	// The contested instructions; the slot of each node (-1: not fixed), and the unit of each instruction.
	contested  []int
	slot, unit []int
	tree       []RefNode
	// All rises of the times that led to the current ones.
	rises []rise
}

// rise says that an arc set the time of a node, from the time of another rise (-1 for the source); depth is the number of rises that led to this one.
type rise struct{ node, time, arc, from, depth int }

// state has the times of all nodes, and for each the rise that set its time (-1: none).
type state struct{ time, by []int }

func (s state) clone() state { return state{slices.Clone(s.time), slices.Clone(s.by)} }

// frame is a split whose kids are visited: next is the number of the kid that comes next in the order of visits, first the slot with which that order begins, rises the number of rises ahead of the split.
type frame struct {
	node, inst   int
	units, first int
	next, rises  int
	times        state
}

func newSearch(f Flow, ii int) *search {
	x := &search{f: f, ii: ii, source: dataflow.Source(f), contested: listsched.Contested(f)}
	x.slot, x.unit = make([]int, dataflow.Nodes(f)), make([]int, f.Insts)
	for v := range x.slot {
		x.slot[v] = -1
	}
	x.slot[x.source] = 0
	return x
}

// begin returns the state in which only the source has a time: it rose before all others.
func (x *search) begin() state {
	n := dataflow.Nodes(x.f)
	s := state{make([]int, n), make([]int, n)}
	for v := range n {
		s.time[v], s.by[v] = never, -1
	}
	s.time[x.source] = 0
	return s
}

// run searches with at most some nodes.
func (x *search) run(nodes int) (Sched, []RefNode, bool) {
	if nodes < 1 {
		return Sched{}, nil, false
	}
	x.tree = []RefNode{{}}
	for i, n := range x.f.Needs {
		if n.Busy > x.ii {
			x.tree[0] = RefNode{Kind: api.RefLong, Inst: i}
			return Sched{}, x.tree, true
		}
	}
	var stack []frame
	times := x.begin()
	node := 0
	for {
		ok := x.raise(&times, node)
		if ok && len(stack) == len(x.contested) {
			s, fits := x.schedule(times)
			return s, nil, fits
		}
		if ok {
			top, enough := x.split(node, times, nodes)
			if !enough {
				return Sched{}, nil, false
			}
			stack = append(stack, top)
		}
		for len(stack) > 0 && !x.advance(&stack[len(stack)-1]) {
			stack = stack[:len(stack)-1]
		}
		if len(stack) == 0 {
			return Sched{}, x.tree, true
		}
		top := &stack[len(stack)-1]
		node, times = x.enter(top)
	}
}

// split makes a node one that goes through all slots and units of the instruction that can start first; false if there are not enough nodes.
func (x *search) split(node int, times state, nodes int) (frame, bool) {
	inst := -1
	for _, i := range x.contested {
		if x.slot[i] < 0 && (inst < 0 || times.time[i] < times.time[inst]) {
			inst = i
		}
	}
	used := 0
	res := x.f.Needs[inst].Res
	for _, i := range x.contested {
		if x.slot[i] >= 0 && x.f.Needs[i].Res == res {
			used = max(used, x.unit[i]+1)
		}
	}
	units := min(x.f.Res[res].Count, used+1)
	kids := x.ii * units
	if len(x.tree)+kids > nodes {
		return frame{}, false
	}
	n := RefNode{Kind: api.RefSplit, Inst: inst}
	for range kids {
		n.Kids = append(n.Kids, len(x.tree))
		x.tree = append(x.tree, RefNode{})
	}
	x.tree[node] = n
	return frame{node: node, inst: inst, units: units, first: times.time[inst] % x.ii, rises: len(x.rises), times: times}, true
}

// advance goes on to the next kid of a split without a clash; those with one are leaves. false if there is none left.
func (x *search) advance(top *frame) bool {
	for top.next < x.ii*top.units {
		slot, unit := x.place(top)
		kid := x.tree[top.node].Kids[slot*top.units+unit]
		top.next++
		x.slot[top.inst], x.unit[top.inst] = slot, unit
		full, clash := x.clash(top.inst)
		if !clash {
			return true
		}
		x.tree[kid] = full
	}
	x.slot[top.inst] = -1
	return false
}

// place returns the slot and the unit of the next kid: the slots begin with the earliest one.
func (x *search) place(top *frame) (slot, unit int) {
	return (top.first + top.next/top.units) % x.ii, top.next % top.units
}

// enter returns the node and the times of the kid to which advance went on.
func (x *search) enter(top *frame) (int, state) {
	times := top.times.clone()
	x.rises = x.rises[:top.rises]
	slot, unit := x.slot[top.inst], x.unit[top.inst]
	if t := x.round(top.inst, times.time[top.inst]); t > times.time[top.inst] {
		r := x.rises[times.by[top.inst]]
		r.time = t
		times.time[top.inst], times.by[top.inst] = t, len(x.rises)
		x.rises = append(x.rises, r)
	}
	return x.tree[top.node].Kids[slot*top.units+unit], times
}

// clash returns a leaf that says that an instruction needs a unit in a cycle in which another one has it.
func (x *search) clash(inst int) (RefNode, bool) {
	need := x.f.Needs[inst]
	for _, i := range x.contested {
		if i == inst || x.slot[i] < 0 || x.f.Needs[i].Res != need.Res || x.unit[i] != x.unit[inst] {
			continue
		}
		for b := range need.Busy {
			slot := (x.slot[inst] + b) % x.ii
			if d := (slot - x.slot[i] + x.ii) % x.ii; d < x.f.Needs[i].Busy {
				return RefNode{Kind: api.RefFull, Res: need.Res, Unit: x.unit[inst], Slot: slot}, true
			}
		}
	}
	return RefNode{}, false
}

// round returns the least time from t on that agrees with the slot of a node.
func (x *search) round(v, t int) int {
	if x.slot[v] < 0 {
		return t
	}
	d := (x.slot[v] - t) % x.ii
	if d < 0 {
		d += x.ii
	}
	return t + d
}

// raise increases times until all arcs are satisfied. If that is not possible, the node of the tree becomes a walk that says so, and the result is false.
func (x *search) raise(s *state, node int) bool {
	for changed := true; changed; {
		changed = false
		for i, a := range x.f.Arcs {
			if s.time[a.From] == never {
				continue
			}
			t := x.round(a.To, s.time[a.From]+a.Lat-x.ii*a.Dist)
			if t <= s.time[a.To] {
				continue
			}
			changed = true
			r := rise{node: a.To, time: t, arc: i, from: s.by[a.From], depth: 1}
			if r.from >= 0 {
				r.depth = x.rises[r.from].depth + 1
			}
			s.time[a.To], s.by[a.To] = t, len(x.rises)
			x.rises = append(x.rises, r)
			if a.To != x.source && r.depth%len(s.time) != 0 {
				continue
			}
			if walk := x.closed(len(x.rises) - 1); walk != nil {
				x.tree[node] = RefNode{Kind: api.RefWalk, Walk: walk}
				return false
			}
		}
	}
	return true
}

// closed returns a closed walk that adds up to more than 0 among the rises that led to one of them, nil if there is none: between two rises of a fixed node that agree with its slot, or of another node without a fixed one between them.
func (x *search) closed(last int) []int {
	seen := map[int]int{}
	var chain []int
	for at := last; ; at = x.rises[at].from {
		r := x.rise(at)
		fixed := x.slot[r.node] >= 0
		if fixed {
			// Nodes that are not fixed count from here on anew.
			for v := range seen {
				if x.slot[v] < 0 {
					seen[v] = -1
				}
			}
		}
		aligned := !fixed || x.round(r.node, r.time) == r.time
		if begin, ok := seen[r.node]; ok && begin >= 0 && aligned {
			walk := chain[begin:]
			slices.Reverse(walk)
			return slices.Clone(walk)
		}
		if aligned {
			seen[r.node] = len(chain)
		}
		if at < 0 {
			return nil
		}
		chain = append(chain, r.arc)
	}
}

// rise returns a rise, for -1 the beginning at the source.
func (x *search) rise(at int) rise {
	if at < 0 {
		return rise{node: x.source}
	}
	return x.rises[at]
}

// schedule returns the schedule with some times; false if it is too long.
func (x *search) schedule(times state) (Sched, bool) {
	f := x.f
	s := Sched{II: x.ii, Depth: max(times.time[dataflow.End(f)], x.ii, 1)}
	s.Start = slices.Clone(times.time[:f.Insts])
	s.Params = slices.Clone(times.time[f.Insts:x.source])
	contested := listsched.Contest(f.Needs, f.Res)
	next := make([]int, len(f.Res))
	for i, n := range f.Needs {
		switch {
		case n.Res < 0:
			s.Unit = append(s.Unit, -1)
		case contested[n.Res]:
			s.Unit = append(s.Unit, x.unit[i])
		default:
			s.Unit = append(s.Unit, next[n.Res])
			next[n.Res]++
		}
	}
	if s.Depth > api.MaxCycles || slices.ContainsFunc(times.time, func(t int) bool { return t > api.MaxCycles }) {
		return Sched{}, false
	}
	return s, true
}
