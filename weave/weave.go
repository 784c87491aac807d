// Package weave builds the instructions of a block out of copies of other blocks, with predicates. The layers that transform control flow share it.
package weave

import (
	"jacquard/api"
	"jacquard/ir"
)

// Loom collects the instructions of a block of a function F, whose Widths grow; ones are the values that are the constant 1 of width 1.
type Loom struct {
	F     *api.Func
	Insts []api.Inst
	ones  map[int]bool
}

// New returns a loom that begins with some instructions of the function.
func New(f *api.Func, insts []api.Inst) *Loom {
	l := &Loom{F: f, ones: map[int]bool{}}
	for _, in := range insts {
		l.append(in)
	}
	return l
}

func (l *Loom) append(in api.Inst) {
	if in.Op == api.OpConst && in.Num == 1 && l.F.Widths[in.Dest] == 1 {
		l.ones[in.Dest] = true
	}
	l.Insts = append(l.Insts, in)
}

// Emit appends an instruction with a new value.
func (l *Loom) Emit(op, width int, args ...int) int {
	return l.emit(api.Inst{Op: op, Args: args}, width)
}

// Const appends a constant.
func (l *Loom) Const(width int, n uint64) int {
	return l.emit(api.Inst{Op: api.OpConst, Num: n}, width)
}

// Put appends an instruction as it is.
func (l *Loom) Put(in api.Inst) { l.append(in) }

// Access appends a load with a new value, or a store.
func (l *Loom) Access(in api.Inst, width int) int {
	if in.Op == api.OpStore {
		in.Dest = -1
		l.append(in)
		return -1
	}
	return l.emit(in, width)
}

func (l *Loom) emit(in api.Inst, width int) int {
	in.Dest = len(l.F.Widths)
	l.F.Widths = append(l.F.Widths, width)
	l.append(in)
	return in.Dest
}

// One returns a constant 1 of width 1.
func (l *Loom) One() int { return l.Const(1, 1) }

// Not returns the inverse of a value of width 1.
func (l *Loom) Not(v int) int { return l.Emit(api.OpXor, 1, v, l.One()) }

// Both returns a value that is 1 if two predicates are.
func (l *Loom) Both(p, q int) int {
	if l.ones[p] {
		return q
	}
	return l.Emit(api.OpAnd, 1, p, q)
}

// Choose returns the first value if a condition is 1, and otherwise the second one.
func (l *Loom) Choose(cond, yes, no int) int {
	if yes == no {
		return yes
	}
	return l.Emit(api.OpSelect, l.F.Widths[yes], cond, yes, no)
}

// Names are the new values of values; values that are not in them stay.
type Names map[int]int

// Of returns the new value of a value.
func (n Names) Of(v int) int {
	if w, ok := n[v]; ok {
		return w
	}
	return v
}

// All returns the new values of a list.
func (n Names) All(list []int) []int {
	var l []int
	for _, v := range list {
		l = append(l, n.Of(v))
	}
	return l
}

// Copy appends copies of instructions with new values, which names gets. If gate is not negative, their accesses are only made where it is 1.
func (l *Loom) Copy(insts []api.Inst, names Names, gate int) {
	for _, in := range insts {
		dest := in.Dest
		in.Args = names.All(in.Args)
		if gate >= 0 && !ir.Pure(in.Op) {
			last := len(in.Args) - 1
			in.Args[last] = l.Both(in.Args[last], gate)
		}
		if dest < 0 {
			l.append(in)
			continue
		}
		names[dest] = l.emit(in, l.F.Widths[dest])
	}
}
