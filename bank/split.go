package bank

import (
	"strconv"

	"jacquard/api"
	"jacquard/bits"
	"jacquard/ir"
	"jacquard/weave"
)

// splitter divides the arrays of a function; first has the number of the first bank of each array.
type splitter struct {
	f     api.Func
	g     api.Func
	known []api.Fact
	first []int
}

// Split returns the function with an array for each bank: ErrForm, ErrLimit.
func Split(f api.Func, known []api.Fact) (api.Func, api.Errno) {
	if !fits(f, known) {
		return api.Func{}, api.ErrForm
	}
	s := &splitter{f: f, g: ir.Clone(f), known: known}
	if !s.arrays() {
		return api.Func{}, api.ErrLimit
	}
	for b := range f.Blocks {
		if !s.block(b) {
			return api.Func{}, api.ErrLimit
		}
	}
	if !ir.Valid(s.g) {
		return api.Func{}, api.ErrLimit
	}
	return s.g, api.OK
}

// arrays makes an array for each bank; false if there are too many.
func (s *splitter) arrays() bool {
	used := map[string]bool{}
	for _, a := range s.f.Arrays {
		used[a.Name] = true
	}
	for _, x := range s.f.Streams {
		used[x.Name] = true
	}
	s.g.Arrays = nil
	for _, a := range s.f.Arrays {
		p, _ := partitionOf(a)
		s.first = append(s.first, len(s.g.Arrays))
		for b := range p.count() {
			name := a.Name
			if a.Kind != api.Whole {
				name = fresh(used, a.Name, b)
			}
			s.g.Arrays = append(s.g.Arrays, api.Array{Name: name, Width: a.Width, Len: p.length(b)})
		}
	}
	return len(s.g.Arrays) <= api.MaxMems
}

// fresh returns a name for a bank that is not used, and marks it.
func fresh(used map[string]bool, name string, b int) string {
	for {
		name += "_"
		if s := name + strconv.Itoa(b); !used[s] {
			used[s] = true
			return s
		}
	}
}

// block replaces the accesses of a block; false if there are too many instructions.
func (s *splitter) block(b int) bool {
	l := weave.New(&s.g, nil)
	for _, in := range s.g.Blocks[b].Insts {
		if in.Op != api.OpLoad && in.Op != api.OpStore {
			l.Put(in)
		} else {
			s.access(l, in)
		}
		if len(l.Insts) > api.MaxInsts || len(s.g.Widths) > api.MaxValues {
			return false
		}
	}
	s.g.Blocks[b].Insts = l.Insts
	return true
}

// choice is a bank that may be accessed, with the index there, and the condition under which it is (-1: always).
type choice struct{ bank, index, cond int }

// access appends the accesses of banks that replace an access.
func (s *splitter) access(l *weave.Loom, in api.Inst) {
	array := in.Mem
	a := s.f.Arrays[array]
	index := in.Args[0]
	p, _ := partitionOf(a)
	w := s.f.Widths[index]
	var list []choice
	bank, fixed := Fixed(a, w, s.known[index])
	switch {
	case a.Kind == api.Whole:
		list = []choice{{0, index, -1}}
	case fixed && bank < p.count():
		list = []choice{{bank, s.inner(l, p, bank, index), -1}}
	case !fixed:
		list = s.choices(l, p, index)
	}
	results := make([]int, 0, len(list))
	last := len(in.Args) - 1
	for i, c := range list {
		x := in
		x.Args = append([]int(nil), in.Args...)
		x.Args[0], x.Mem = c.index, s.first[array]+c.bank
		if c.cond >= 0 {
			x.Args[last] = l.Both(in.Args[last], c.cond)
		}
		if in.Op == api.OpLoad && len(list) == 1 {
			l.Put(x)
			return
		}
		results = append(results, l.Access(x, a.Width))
		if in.Op == api.OpLoad && i > 0 {
			s.join(l, results, i, len(list), in.Dest)
		}
	}
	if in.Op == api.OpLoad && len(list) == 0 {
		l.Put(api.Inst{Op: api.OpConst, Dest: in.Dest})
	}
}

// join joins the result of a load with those of the loads before it, all but one of which are 0. The last one gets the value of the load that is replaced.
func (s *splitter) join(l *weave.Loom, results []int, i, count, dest int) {
	args := []int{results[i-1], results[i]}
	if i == count-1 {
		l.Put(api.Inst{Op: api.OpOr, Dest: dest, Args: args})
		return
	}
	results[i] = l.Emit(api.OpOr, s.g.Widths[results[i]], args...)
}

// inner returns the index in a bank of an index that belongs to it.
func (s *splitter) inner(l *weave.Loom, p partition, bank, index int) int {
	w := s.g.Widths[index]
	switch p := p.(type) {
	case cyclic:
		return quotient(l, index, w, p.factor)
	case blocks:
		return l.Emit(api.OpSub, w, index, l.Const(w, uint64(bank*p.size)))
	}
	return l.Const(w, 0)
}

// quotient returns a value divided by a number, by a shift where that is possible.
func quotient(l *weave.Loom, v, w, n int) int {
	switch k := uint64(n); {
	case k > bits.Mask(w):
		return l.Const(w, 0)
	case k&(k-1) == 0:
		return l.Emit(api.OpLShr, w, v, l.Const(w, uint64(bits.Length(k)-1)))
	default:
		return l.Emit(api.OpUDiv, w, v, l.Const(w, k))
	}
}

// remainder returns a value modulo a number, by a mask where that is possible.
func remainder(l *weave.Loom, v, w, n int) int {
	switch k := uint64(n); {
	case k > bits.Mask(w):
		return v
	case k&(k-1) == 0:
		return l.Emit(api.OpAnd, w, v, l.Const(w, k-1))
	default:
		return l.Emit(api.OpURem, w, v, l.Const(w, k))
	}
}

// choices returns all banks that an index may belong to.
func (s *splitter) choices(l *weave.Loom, p partition, index int) []choice {
	w := s.g.Widths[index]
	if p, ok := p.(blocks); ok {
		return s.ranges(l, p, index)
	}
	number, inside := index, -1
	if p, ok := p.(cyclic); ok {
		number = remainder(l, index, w, p.factor)
		inside = quotient(l, index, w, p.factor)
	} else {
		inside = l.Const(w, 0)
	}
	var list []choice
	for b := range p.count() {
		if uint64(b) <= bits.Mask(w) {
			list = append(list, choice{b, inside, l.Emit(api.OpEq, 1, number, l.Const(w, uint64(b)))})
		}
	}
	return list
}

// ranges returns the banks of consecutive elements that an index may belong to. An index that is too small wraps around, and is mostly too great then.
func (s *splitter) ranges(l *weave.Loom, p blocks, index int) []choice {
	w := s.g.Widths[index]
	var list []choice
	for b := range p.count() {
		start := uint64(b * p.size)
		if start > bits.Mask(w) {
			break
		}
		n := l.Const(w, start)
		c := choice{b, l.Emit(api.OpSub, w, index, n), -1}
		if start+uint64(p.length(b))-1 > bits.Mask(w) {
			c.cond = l.Emit(api.OpULe, 1, n, index)
		}
		list = append(list, c)
	}
	return list
}
