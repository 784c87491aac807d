// Package cutpoint executes the points of cut-point proofs. The layers that make proofs and check them share it.
package cutpoint

import (
	"jacquard/api"
	"jacquard/cycles"
	"jacquard/ir"
)

// RightForm reports whether schedules have the right form for a function.
func RightForm(f api.Func, scheds []api.Sched) bool {
	if !ir.Valid(f) || len(scheds) != len(f.Blocks) {
		return false
	}
	for b, s := range scheds {
		if s.Depth < 1 || s.Depth > api.MaxCycles || s.II < 0 || s.II > s.Depth {
			return false
		}
		if _, loop := ir.SelfLoop(f, b); s.II > 0 && !loop {
			return false
		}
	}
	return true
}

// Local returns the cycle of an iteration that is in a stage at a point.
func Local(scheds []api.Sched, p api.CutPoint, stage int) int {
	switch {
	case p.Kind == api.CutBlock:
		return p.Cycle
	case p.Kind == api.CutLoop && p.Block >= 0 && p.Block < len(scheds):
		return p.Cycle + stage*scheds[p.Block].II
	}
	return 0
}

// exists reports whether a point is one of the terms of layer 51.
func exists(f api.Func, scheds []api.Sched, p api.CutPoint) bool {
	if p.Kind == api.CutStart {
		return p.Block == 0 && p.Cycle == 0 && p.Lo == 0 && p.Hi == 0
	}
	if p.Block < 0 || p.Block >= len(f.Blocks) || p.Cycle < 0 {
		return false
	}
	s := scheds[p.Block]
	plain := p.Lo == 0 && p.Hi == 0
	switch p.Kind {
	case api.CutBlock:
		return plain && s.II == 0 && p.Cycle < s.Depth
	case api.CutLoop:
		return s.II > 0 && p.Cycle < s.II && p.Lo >= 0 && p.Lo <= p.Hi && p.Hi <= cycles.Stages(s)
	case api.CutDone:
		return plain && p.Cycle == 0 && f.Blocks[p.Block].Term.Kind == api.Return
	}
	return false
}

// Enter returns the point at which a block is entered.
func Enter(scheds []api.Sched, c int) api.CutPoint {
	if scheds[c].II > 0 {
		return api.CutPoint{Kind: api.CutLoop, Block: c}
	}
	return api.CutPoint{Kind: api.CutBlock, Block: c}
}

// Next returns the ways from a point, for schedules of the right form.
func Next(f api.Func, scheds []api.Sched, p api.CutPoint) []api.Way {
	p.Holds = nil
	if !exists(f, scheds, p) {
		return nil
	}
	way := api.Way{Cond: -1, Edge: -1}
	switch p.Kind {
	case api.CutStart:
		way.To = Enter(scheds, 0)
		return []api.Way{way}
	case api.CutBlock:
		return nextInBlock(f, scheds, p, way)
	case api.CutLoop:
		return nextInLoop(f, scheds, p, way)
	}
	return nil
}

func nextInBlock(f api.Func, scheds []api.Sched, p api.CutPoint, way api.Way) []api.Way {
	t := f.Blocks[p.Block].Term
	way.To = p
	switch {
	case p.Cycle < scheds[p.Block].Depth-1:
		way.To.Cycle++
		return []api.Way{way}
	case t.Kind == api.Return:
		way.To = api.CutPoint{Kind: api.CutDone, Block: p.Block}
		return []api.Way{way}
	case t.Kind == api.Jump:
		way.Edge, way.To = 0, Enter(scheds, t.To[0].Block)
		return []api.Way{way}
	}
	yes, no := way, way
	yes.Cond, yes.Truth, yes.Edge, yes.To = t.Cond, true, 0, Enter(scheds, t.To[0].Block)
	no.Cond, no.Edge, no.To = t.Cond, 1, Enter(scheds, t.To[1].Block)
	return []api.Way{yes, no}
}

func nextInLoop(f api.Func, scheds []api.Sched, p api.CutPoint, way api.Way) []api.Way {
	s := scheds[p.Block]
	t := f.Blocks[p.Block].Term
	self, _ := ir.SelfLoop(f, p.Block)
	stages := cycles.Stages(s)
	leave := way
	leave.Edge, leave.To = 1-self, Enter(scheds, t.To[1-self].Block)
	// The ways on which the loop goes on, and on which it does not.
	on, off := way, way
	on.Cond, on.Truth, on.Edge, on.Shift = t.Cond, self == 0, self, true
	off.Cond, off.Truth = t.Cond, self != 0
	moved := api.CutPoint{Kind: api.CutLoop, Block: p.Block, Hi: min(p.Hi+1, stages)}
	switch {
	case stages == 1 && p.Cycle == s.II-1:
		on.To = moved
		off.Edge, off.To = leave.Edge, leave.To
		return []api.Way{on, off}
	case stages > 1 && p.Cycle == (s.Depth-1)%s.II && p.Lo >= stages-1:
		return []api.Way{leave}
	case p.Cycle < s.II-1:
		way.To = p
		way.To.Cycle++
		return []api.Way{way}
	case p.Lo == 0:
		on.To = moved
		moved.Lo = 1
		off.Shift, off.To = true, moved
		return []api.Way{on, off}
	}
	way.Shift = true
	moved.Lo = min(p.Lo+1, moved.Hi)
	way.To = moved
	return []api.Way{way}
}
