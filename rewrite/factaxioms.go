package rewrite

import (
	"slices"

	"jacquard/api"
	"jacquard/bits"
	"jacquard/ir"
)

// within reports whether the fact of a value says that it has at most w bits, unsigned.
func (m *match) within(v, w int) bool {
	f, ok := m.fact(v)
	return ok && f.Hi <= bits.Mask(w)
}

// withinSigned reports whether the fact of a value says that it has at most w bits, signed.
func (m *match) withinSigned(v, w int) bool {
	f, ok := m.fact(v)
	return ok && f.Least >= -1<<uint(w-1) && f.Most <= int64(bits.Mask(w-1))
}

// notNegative reports whether the fact of a value says that its sign is 0.
func (m *match) notNegative(v int) bool {
	f, ok := m.fact(v)
	return ok && f.Hi <= bits.Mask(m.F.Widths[v]-1)
}

func isFactConst(m *match) bool {
	f, ok := m.fact(m.value)
	return ok && f.Lo == f.Hi && m.is(m.with, f.Lo)
}

func isFactCast(m *match) bool {
	if m.d.Op != api.OpZExt && m.d.Op != api.OpSExt {
		return false
	}
	t := m.d.Args[0]
	if y, ok := one(m.def(t), api.OpTrunc); !ok || y != m.with {
		return false
	}
	if m.d.Op == api.OpZExt {
		return m.within(m.with, m.F.Widths[t])
	}
	return m.withinSigned(m.with, m.F.Widths[t])
}

func isFactMask(m *match) bool {
	a, c, ok := m.byConst(m.d)
	f, known := m.fact(m.with)
	return ok && known && m.d.Op == api.OpAnd && a == m.with && bits.Mask(m.w)&^c&^f.Zeros == 0
}

func isFactRem(m *match) bool {
	a, b, ok := pair(m.d, api.OpURem)
	if !ok || a != m.with {
		return false
	}
	f, ok1 := m.fact(a)
	g, ok2 := m.fact(b)
	return ok1 && ok2 && f.Hi < g.Lo
}

func isFactSign(m *match) bool {
	unsigned, second := 0, true
	switch m.d.Op {
	case api.OpSDiv:
		unsigned = api.OpUDiv
	case api.OpSRem:
		unsigned = api.OpURem
	case api.OpSLt:
		unsigned = api.OpULt
	case api.OpSLe:
		unsigned = api.OpULe
	case api.OpAShr:
		unsigned, second = api.OpLShr, false
	case api.OpSExt:
		unsigned, second = api.OpZExt, false
	}
	if unsigned == 0 || m.x.Op != unsigned || !slices.Equal(m.d.Args, m.x.Args) {
		return false
	}
	return m.notNegative(m.d.Args[0]) && (!second || m.notNegative(m.d.Args[1]))
}

func isFactWide(m *match) bool {
	if bits.IsCompare(m.d.Op) {
		return narrowComparison(m)
	}
	n, ok := one(m.x, api.OpZExt)
	if !ok {
		return false
	}
	inner, v := m.def(n), m.F.Widths[n]
	if inner.Op != m.d.Op || v >= m.w {
		return false
	}
	d := m.d.Args
	low := func(i int) bool { return m.low(inner.Args[i], d[i], v) }
	switch m.d.Op {
	case api.OpAdd, api.OpSub, api.OpMul, api.OpAnd, api.OpOr, api.OpXor:
		return low(0) && low(1) && m.within(m.value, v)
	case api.OpUDiv, api.OpURem:
		f, ok := m.fact(d[1])
		return low(0) && low(1) && m.within(d[0], v) && m.within(d[1], v) && ok && (f.Lo >= 1 || m.d.Op == api.OpURem)
	case api.OpSelect:
		return d[0] == inner.Args[0] && low(1) && low(2) && m.within(m.value, v)
	case api.OpLShr:
		k, ok := m.Constant(m.block, d[1])
		return ok && k < uint64(v) && m.is(inner.Args[1], k) && low(0) && m.within(d[0], v)
	}
	return false
}

// narrowComparison decides AxFactWide for comparisons.
func narrowComparison(m *match) bool {
	if m.x.Op != m.d.Op {
		return false
	}
	v := m.F.Widths[m.x.Args[0]]
	if v >= m.F.Widths[m.d.Args[0]] {
		return false
	}
	signed := m.d.Op == api.OpSLt || m.d.Op == api.OpSLe
	for i, a := range m.d.Args {
		if !m.low(m.x.Args[i], a, v) || signed && !m.withinSigned(a, v) || !signed && !m.within(a, v) {
			return false
		}
	}
	return true
}

// onEdges reports whether something holds for each edge to the block.
func (m *match) onEdges(holds func(l link, args []int) bool) bool {
	if m.block == 0 {
		return false
	}
	for _, l := range m.links(m.block) {
		if !holds(l, m.args(l)) {
			return false
		}
	}
	return true
}

// sameConstant reports whether two values of blocks are constants with the same word.
func (x *Editor) sameConstant(b, v, c, w int) bool {
	n, ok1 := x.Constant(b, v)
	k, ok2 := x.Constant(c, w)
	return ok1 && ok2 && n == k
}

func isParamConst(m *match) bool {
	p, ok := m.Param(m.block, m.value)
	if _, constant := m.Constant(m.block, m.with); !ok || !constant {
		return false
	}
	return m.onEdges(func(l link, args []int) bool {
		return l.from == m.block && args[p] == m.value || m.sameConstant(l.from, args[p], m.block, m.with)
	})
}

func isParamSame(m *match) bool {
	p, ok1 := m.Param(m.block, m.value)
	q, ok2 := m.Param(m.block, m.with)
	return ok1 && ok2 && m.onEdges(func(l link, args []int) bool {
		if l.from == m.block && args[p] == m.value && args[q] == m.with {
			return true
		}
		return args[p] == args[q] || m.sameConstant(l.from, args[p], l.from, args[q])
	})
}

func isParamOp(m *match) bool {
	q, ok := m.Param(m.block, m.with)
	if !ok || !ir.Pure(m.d.Op) {
		return false
	}
	at, p := -1, 0
	for i, v := range m.d.Args {
		if k, ok := m.Param(m.block, v); ok && at < 0 {
			at, p = i, k
		} else if _, constant := m.Constant(m.block, v); !constant {
			return false
		}
	}
	return at >= 0 && m.onEdges(func(l link, args []int) bool {
		d := m.Def(l.from, args[q])
		if d.Op != m.d.Op || d.Num != m.d.Num {
			return false
		}
		for i, v := range d.Args {
			if i == at && v != args[p] || i != at && !m.sameConstant(l.from, v, m.block, m.d.Args[i]) {
				return false
			}
		}
		return true
	})
}

func isParamStep(m *match) bool {
	e, c, ok := m.byConst(m.d)
	if !ok || m.d.Op != api.OpMul {
		return false
	}
	sum := m.def(e)
	v, s, ok1 := m.byConst(sum)
	w, n, ok2 := m.byConst(m.x)
	if !ok1 || !ok2 || sum.Op != api.OpAdd || m.x.Op != api.OpAdd || n != bits.Fit(m.w, s*c) {
		return false
	}
	p, ok1 := m.Param(m.block, v)
	q, ok2 := m.Param(m.block, w)
	return ok1 && ok2 && m.onEdges(func(l link, args []int) bool {
		a, b, ok := pair(m.Def(l.from, args[q]), api.OpMul)
		if !ok || a != args[p] {
			return false
		}
		k, ok := m.Constant(l.from, b)
		return ok && k == c
	})
}

func isParamWide(m *match) bool {
	p, ok := m.Param(m.block, m.value)
	z, ok2 := one(m.x, api.OpZExt)
	if !ok || !ok2 || !m.within(m.value, m.F.Widths[z]) {
		return false
	}
	q, ok := m.Param(m.block, z)
	return ok && m.onEdges(func(l link, args []int) bool {
		a, ok := one(m.Def(l.from, args[q]), api.OpTrunc)
		return ok && a == args[p]
	})
}
