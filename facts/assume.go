package facts

import (
	"slices"

	"jacquard/api"
	"jacquard/bits"
	"jacquard/ir"
)

// Assume returns the facts about the values of a block that hold if edge i of its terminator is taken, and false if it never is.
func Assume(f api.Func, block, edge int, known []Fact) ([]Fact, bool) {
	if !fits(f, known) || block < 0 || block >= len(f.Blocks) || edge < 0 || edge >= len(f.Blocks[block].Term.To) {
		return nil, false
	}
	list := slices.Clone(known)
	if !assume(f, block, edge, list) {
		return nil, false
	}
	return list, true
}

// fits reports whether a function is well formed, and a list has a valid fact for each value.
func fits(f api.Func, known []Fact) bool {
	if !ir.Valid(f) || len(known) != len(f.Widths) {
		return false
	}
	for v, x := range known {
		if !Valid(f.Widths[v], x) {
			return false
		}
	}
	return true
}

// apply returns the fact of the result of an instruction, from those of its operands.
func apply(f api.Func, in *api.Inst, known []Fact) Fact {
	w := f.Widths[in.Dest]
	if in.Op == api.OpLoad || in.Op == api.OpRecv {
		return Top(w)
	}
	var widths [3]int
	var args [3]Fact
	for i, v := range in.Args {
		widths[i], args[i] = f.Widths[v], known[v]
	}
	n := len(in.Args)
	return Apply(in.Op, w, widths[:n], args[:n], in.Num)
}

// handing hands the truth of a condition on to the values of a block; dead says that it cannot hold.
type handing struct {
	f    api.Func
	list []Fact
	dead bool
}

// assume changes the facts of the values of a block to those that hold if an edge is taken; false if it never is.
func assume(f api.Func, block, edge int, list []Fact) bool {
	b := &f.Blocks[block]
	if b.Term.Kind != api.Branch {
		return true
	}
	h := &handing{f: f, list: list}
	h.meet(b.Term.Cond, Of(1, uint64(1-edge)))
	for i := len(b.Insts) - 1; i >= 0 && !h.dead; i-- {
		if in := &b.Insts[i]; in.Dest >= 0 {
			h.back(in)
		}
	}
	for i := range b.Insts {
		in := &b.Insts[i]
		if h.dead {
			return false
		}
		if in.Dest >= 0 && ir.Pure(in.Op) {
			h.meet(in.Dest, apply(f, in, list))
		}
	}
	return !h.dead
}

// meet replaces the fact of a value by its meet with another one.
func (h *handing) meet(v int, x Fact) {
	if h.dead {
		return
	}
	m, ok := Meet(h.f.Widths[v], h.list[v], x)
	if !ok {
		h.dead = true
		return
	}
	h.list[v] = m
}

func single(f Fact) bool { return f.Lo == f.Hi }

// back uses the fact of the result of an instruction for its operands.
func (h *handing) back(in *api.Inst) {
	v := h.list[in.Dest]
	if h.f.Widths[in.Dest] == 1 && single(v) {
		h.truth(in, v.Lo)
	}
	if h.dead {
		return
	}
	w := h.f.Widths[in.Dest]
	two := []int{w, w}
	switch in.Op {
	case api.OpAdd, api.OpSub:
		a, b := in.Args[0], in.Args[1]
		v = h.list[in.Dest]
		switch {
		case single(h.list[b]) && in.Op == api.OpAdd:
			h.meet(a, Apply(api.OpSub, w, two, []Fact{v, h.list[b]}, 0))
		case single(h.list[b]):
			h.meet(a, Apply(api.OpAdd, w, two, []Fact{v, h.list[b]}, 0))
		case single(h.list[a]) && in.Op == api.OpAdd:
			h.meet(b, Apply(api.OpSub, w, two, []Fact{v, h.list[a]}, 0))
		}
	case api.OpZExt, api.OpSExt:
		a := in.Args[0]
		h.meet(a, Apply(api.OpTrunc, h.f.Widths[a], []int{w}, []Fact{v}, 0))
	}
}

// truth uses that the result of an instruction of width 1 is t.
func (h *handing) truth(in *api.Inst, t uint64) {
	switch {
	case in.Op == api.OpAnd && t == 1, in.Op == api.OpOr && t == 0:
		h.meet(in.Args[0], Of(1, t))
		h.meet(in.Args[1], Of(1, t))
	case in.Op == api.OpXor:
		a, b := in.Args[0], in.Args[1]
		if single(h.list[b]) {
			h.meet(a, Of(1, t^h.list[b].Lo))
		} else if single(h.list[a]) {
			h.meet(b, Of(1, t^h.list[a].Lo))
		}
	case bits.IsCompare(in.Op) && in.Args[0] != in.Args[1]:
		h.compare(in.Op, in.Args[0], in.Args[1], t == 1)
	}
}

// compare refines the facts of two values by a comparison that is true or false.
func (h *handing) compare(op, a, b int, t bool) {
	if !t {
		switch op {
		case api.OpULt:
			op, a, b = api.OpULe, b, a
		case api.OpULe:
			op, a, b = api.OpULt, b, a
		case api.OpSLt:
			op, a, b = api.OpSLe, b, a
		case api.OpSLe:
			op, a, b = api.OpSLt, b, a
		case api.OpEq:
			op = api.OpNe
		case api.OpNe:
			op = api.OpEq
		}
	}
	w := h.f.Widths[a]
	x, y := h.list[a], h.list[b]
	if op == api.OpEq {
		h.meet(a, y)
		h.meet(b, x)
		return
	}
	newX, newY, ok := refine(op, w, x, y)
	if ok {
		newX, ok = Tighten(w, newX)
	}
	if ok {
		newY, ok = Tighten(w, newY)
	}
	if !ok {
		h.dead = true
		return
	}
	h.list[a], h.list[b] = newX, newY
}

// refine returns facts whose bounds use that a comparison other than Eq is true; false if it cannot be.
func refine(op, w int, x, y Fact) (Fact, Fact, bool) {
	a, b := x, y
	top := Top(w)
	switch op {
	case api.OpULt:
		if y.Hi == 0 || x.Lo == top.Hi {
			return x, y, false
		}
		a.Hi, b.Lo = min(x.Hi, y.Hi-1), max(y.Lo, x.Lo+1)
	case api.OpULe:
		a.Hi, b.Lo = min(x.Hi, y.Hi), max(y.Lo, x.Lo)
	case api.OpSLt:
		if y.Most == top.Least || x.Least == top.Most {
			return x, y, false
		}
		a.Most, b.Least = min(x.Most, y.Most-1), max(y.Least, x.Least+1)
	case api.OpSLe:
		a.Most, b.Least = min(x.Most, y.Most), max(y.Least, x.Least)
	case api.OpNe:
		ok1, ok2 := true, true
		if single(y) {
			a, ok1 = without(w, x, y.Lo)
		}
		if single(x) {
			b, ok2 = without(w, y, x.Lo)
		}
		return a, b, ok1 && ok2
	}
	return a, b, true
}

// without returns a fact whose bounds exclude a word, where that is one of them; false if nothing remains.
func without(w int, x Fact, word uint64) (Fact, bool) {
	s := bits.Signed(w, word)
	if single(x) {
		return x, x.Lo != word
	}
	if x.Least == s && x.Most == s {
		return x, false
	}
	if x.Lo == word {
		x.Lo++
	}
	if x.Hi == word {
		x.Hi--
	}
	if x.Least == s {
		x.Least++
	}
	if x.Most == s {
		x.Most--
	}
	return x, true
}
