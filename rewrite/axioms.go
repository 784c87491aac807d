package rewrite

import (
	"slices"

	"jacquard/api"
	"jacquard/bits"
	"jacquard/ir"
	"jacquard/operator"
)

// match is a pair of values of a block of which an axiom may say that they are equal: d and x are their definitions, w is their width.
type match struct {
	*Editor
	block, value, with, w int
	d, x                  api.Inst
}

// axiom decides one direction of an axiom.
type axiom func(m *match) bool

// axioms returns the table of the axioms; those that hold in both directions are wrapped.
func axioms() map[int]axiom {
	both := func(one axiom) axiom {
		return func(m *match) bool {
			return one(m) || one(&match{m.Editor, m.block, m.with, m.value, m.w, m.x, m.d})
		}
	}
	return map[int]axiom{
		api.AxConst: isConst, api.AxSame: isSame, api.AxCommute: isCommute, api.AxNeutral: isNeutral,
		api.AxAbsorb: isAbsorb, api.AxIdem: isIdem, api.AxSelf: isSelf, api.AxSelect: isSelect, api.AxCast: isCast,
		api.AxAssoc: both(isAssoc), api.AxDistrib: both(isDistrib), api.AxNegate: both(isNegate),
		api.AxMulShift: both(isMulShift), api.AxDivShift: both(isDivShift), api.AxRemMask: both(isRemMask),
		api.AxMulSplit: both(isMulSplit), api.AxDivMagic: isDivMagic, api.AxRemDiv: both(isRemDiv),
		api.AxTrunc: both(isTrunc), api.AxInvert: both(isInvert), api.AxShifts: both(isShifts),
		api.AxFactConst: isFactConst, api.AxFactCast: isFactCast, api.AxFactMask: isFactMask, api.AxFactRem: isFactRem,
		api.AxFactSign: both(isFactSign), api.AxFactWide: isFactWide,
		api.AxParamConst: isParamConst, api.AxParamSame: isParamSame, api.AxParamOp: isParamOp,
		api.AxParamStep: isParamStep, api.AxParamWide: isParamWide,
	}
}

// Equal reports whether two values of a block are equal by an axiom.
func (x *Editor) Equal(block, value, with, ax int) bool {
	holds, ok := x.axioms[ax]
	if !ok || !x.Has(block, value) || !x.Has(block, with) || x.F.Widths[value] != x.F.Widths[with] {
		return false
	}
	return holds(&match{x, block, value, with, x.F.Widths[value], x.Def(block, value), x.Def(block, with)})
}

// def returns the definition of a value of the block.
func (m *match) def(v int) api.Inst { return m.Def(m.block, v) }

// is reports whether a value is a certain constant.
func (m *match) is(v int, n uint64) bool {
	c, ok := m.Constant(m.block, v)
	return ok && c == n
}

// byConst returns the operands of an instruction with two of them, the second of which is a constant, and true.
func (m *match) byConst(in api.Inst) (a int, c uint64, ok bool) {
	if len(in.Args) != 2 {
		return 0, 0, false
	}
	c, ok = m.Constant(m.block, in.Args[1])
	return in.Args[0], c, ok
}

// pair returns the operands of an instruction with an operator and two operands, and true.
func pair(in api.Inst, op int) (a, b int, ok bool) {
	if in.Op != op || len(in.Args) != 2 {
		return 0, 0, false
	}
	return in.Args[0], in.Args[1], true
}

// one returns the operand of an extension or a truncation, and true.
func one(in api.Inst, op int) (a int, ok bool) {
	if in.Op != op || len(in.Args) != 1 {
		return 0, false
	}
	return in.Args[0], true
}

func isConst(m *match) bool {
	if !ir.Pure(m.d.Op) {
		return false
	}
	var words [3]uint64
	var widths [3]int
	for i, v := range m.d.Args {
		n, ok := m.Constant(m.block, v)
		if !ok {
			return false
		}
		words[i], widths[i] = n, m.F.Widths[v]
	}
	n := len(m.d.Args)
	return m.is(m.with, operator.Value(m.d.Op, m.w, widths[:n], words[:n], m.d.Num))
}

func isSame(m *match) bool {
	return ir.Pure(m.d.Op) && m.d.Op == m.x.Op && m.d.Num == m.x.Num && slices.Equal(m.d.Args, m.x.Args)
}

func isCommute(m *match) bool {
	return bits.Commutes(m.d.Op) && m.d.Op == m.x.Op && m.d.Args[0] == m.x.Args[1] && m.d.Args[1] == m.x.Args[0]
}

func isNeutral(m *match) bool {
	a, c, ok := m.byConst(m.d)
	if !ok || a != m.with {
		return false
	}
	switch m.d.Op {
	case api.OpAdd, api.OpSub, api.OpOr, api.OpXor, api.OpShl, api.OpLShr, api.OpAShr, api.OpURem, api.OpSRem:
		return c == 0
	case api.OpMul, api.OpUDiv, api.OpSDiv:
		return c == 1
	case api.OpAnd:
		return c == bits.Mask(m.w)
	}
	return false
}

func isAbsorb(m *match) bool {
	a, c, ok := m.byConst(m.d)
	if !ok {
		return false
	}
	switch m.d.Op {
	case api.OpMul, api.OpAnd, api.OpULt:
		return c == 0 && m.is(m.with, 0)
	case api.OpURem, api.OpSRem:
		return c == 1 && m.is(m.with, 0)
	case api.OpShl, api.OpLShr:
		return c >= uint64(m.w) && m.is(m.with, 0)
	case api.OpOr:
		return c == bits.Mask(m.w) && m.is(m.with, c)
	case api.OpUDiv:
		return c == 0 && m.is(m.with, bits.Mask(m.w))
	case api.OpULe:
		return c == bits.Mask(m.F.Widths[a]) && m.is(m.with, 1)
	}
	return false
}

func isIdem(m *match) bool {
	return (m.d.Op == api.OpAnd || m.d.Op == api.OpOr) && m.d.Args[0] == m.with && m.d.Args[1] == m.with
}

func isSelf(m *match) bool {
	if !bits.IsBinary(m.d.Op) || m.d.Args[0] != m.d.Args[1] {
		return false
	}
	switch m.d.Op {
	case api.OpSub, api.OpXor, api.OpURem, api.OpSRem, api.OpNe, api.OpULt, api.OpSLt:
		return m.is(m.with, 0)
	case api.OpEq, api.OpULe, api.OpSLe:
		return m.is(m.with, 1)
	}
	return false
}

func isSelect(m *match) bool {
	if m.d.Op != api.OpSelect {
		return false
	}
	c, a, b := m.d.Args[0], m.d.Args[1], m.d.Args[2]
	return m.with == a && (m.is(c, 1) || a == b) || m.with == b && m.is(c, 0) ||
		m.w == 1 && m.with == c && m.is(a, 1) && m.is(b, 0)
}

func isCast(m *match) bool {
	if m.d.Op < api.OpZExt || m.d.Op > api.OpTrunc {
		return false
	}
	a := m.d.Args[0]
	inner := m.def(a)
	if a == m.with {
		return true
	}
	if inner.Op < api.OpZExt || inner.Op > api.OpTrunc {
		return false
	}
	y := inner.Args[0]
	v := m.F.Widths[y]
	like := func(op int) bool {
		z, ok := one(m.x, op)
		return ok && z == y
	}
	switch {
	case m.d.Op == api.OpTrunc && inner.Op == api.OpTrunc:
		return like(api.OpTrunc)
	case m.d.Op == api.OpTrunc:
		return v == m.w && m.with == y || v < m.w && like(inner.Op) || v > m.w && like(api.OpTrunc)
	case m.d.Op == inner.Op:
		return like(m.d.Op)
	case m.d.Op == api.OpSExt && inner.Op == api.OpZExt:
		return m.F.Widths[a] > v && like(api.OpZExt)
	}
	return false
}

func isAssoc(m *match) bool {
	op := m.d.Op
	if !bits.Associates(op) || m.x.Op != op {
		return false
	}
	a, b, ok := pair(m.def(m.d.Args[0]), op)
	if !ok {
		return false
	}
	b2, c, ok := pair(m.def(m.x.Args[1]), op)
	return ok && b == b2 && m.x.Args[0] == a && m.d.Args[1] == c
}

func isDistrib(m *match) bool {
	p, c, ok := pair(m.d, api.OpMul)
	if !ok || m.x.Op != api.OpAdd && m.x.Op != api.OpSub {
		return false
	}
	a, b, ok := pair(m.def(p), m.x.Op)
	if !ok {
		return false
	}
	a2, c2, ok2 := pair(m.def(m.x.Args[0]), api.OpMul)
	b2, c3, ok3 := pair(m.def(m.x.Args[1]), api.OpMul)
	return ok2 && ok3 && a == a2 && b == b2 && c == c2 && c == c3
}

func isNegate(m *match) bool {
	a, b, ok := pair(m.d, api.OpSub)
	a2, q, ok2 := pair(m.x, api.OpAdd)
	if !ok || !ok2 || a != a2 {
		return false
	}
	zero, b2, ok := pair(m.def(q), api.OpSub)
	return ok && m.is(zero, 0) && b == b2
}

// power returns k for a number 2^k, and true.
func power(n uint64) (uint64, bool) {
	return uint64(bits.Length(n) - 1), n != 0 && n&(n-1) == 0
}

// byPower decides axioms that use a power of 2 in place of a shift or a mask: other tells what the second constant has to be.
func (m *match) byPower(op, with int, other func(n, k uint64) uint64) bool {
	a, c, ok := m.byConst(m.d)
	b, n, ok2 := m.byConst(m.x)
	k, ok3 := power(c)
	return ok && ok2 && ok3 && m.d.Op == op && m.x.Op == with && a == b && n == other(c, k)
}

func isMulShift(m *match) bool {
	return m.byPower(api.OpMul, api.OpShl, func(_, k uint64) uint64 { return k })
}

func isDivShift(m *match) bool {
	return m.byPower(api.OpUDiv, api.OpLShr, func(_, k uint64) uint64 { return k })
}

func isRemMask(m *match) bool {
	return m.byPower(api.OpURem, api.OpAnd, func(n, _ uint64) uint64 { return n - 1 })
}

// times returns how many times a value is another one, and true.
func (m *match) times(v, a int) (uint64, bool) {
	if v == a {
		return 1, true
	}
	d := m.def(v)
	b, n, ok := m.byConst(d)
	switch {
	case !ok || a != b:
		return 0, false
	case d.Op == api.OpMul:
		return n, true
	case d.Op == api.OpShl && n < uint64(m.w):
		return 1 << n, true
	}
	return 0, false
}

func isMulSplit(m *match) bool {
	a, c, ok := m.byConst(m.d)
	if !ok || m.d.Op != api.OpMul || m.x.Op != api.OpAdd && m.x.Op != api.OpSub {
		return false
	}
	// A value that is the multiplied one may be 1 times it, or, by its definition, another multiple of the same value.
	q, ok1 := m.times(m.x.Args[0], a)
	r, ok2 := m.times(m.x.Args[1], a)
	if m.x.Op == api.OpSub {
		r = -r
	}
	return ok1 && ok2 && bits.Fit(m.w, q+r) == c
}

func isDivMagic(m *match) bool {
	a, c, ok := m.byConst(m.d)
	s, ok2 := one(m.x, api.OpTrunc)
	if !ok || !ok2 || m.d.Op != api.OpUDiv || m.F.Widths[s] != 2*m.w {
		return false
	}
	shift := m.def(s)
	p, k, ok := m.byConst(shift)
	if !ok || shift.Op != api.OpLShr || k >= uint64(2*m.w) {
		return false
	}
	product := m.def(p)
	e, n, ok := m.byConst(product)
	if !ok || product.Op != api.OpMul {
		return false
	}
	b, ok := one(m.def(e), api.OpZExt)
	return ok && a == b && isMagic(m.w, c, n, int(k))
}

func isRemDiv(m *match) bool {
	quotient := api.OpUDiv
	if m.d.Op == api.OpSRem {
		quotient = api.OpSDiv
	}
	if m.d.Op != api.OpURem && m.d.Op != api.OpSRem {
		return false
	}
	a, b := m.d.Args[0], m.d.Args[1]
	a2, p, ok := pair(m.x, api.OpSub)
	if !ok || a != a2 {
		return false
	}
	q, b2, ok := pair(m.def(p), api.OpMul)
	if !ok || b != b2 {
		return false
	}
	a3, b3, ok := pair(m.def(q), quotient)
	return ok && a == a3 && b == b3
}

// low reports whether a value is the low part, of width w, of another one.
func (m *match) low(part, v, w int) bool {
	if m.F.Widths[part] != w {
		return false
	}
	if t, ok := one(m.def(part), api.OpTrunc); ok && t == v {
		return true
	}
	if n, ok := m.Constant(m.block, v); ok && m.is(part, bits.Fit(w, n)) {
		return true
	}
	d := m.def(v)
	return (d.Op == api.OpZExt || d.Op == api.OpSExt) && d.Args[0] == part
}

func isTrunc(m *match) bool {
	t, ok := one(m.d, api.OpTrunc)
	if !ok {
		return false
	}
	e := m.def(t)
	if e.Op != m.x.Op {
		return false
	}
	switch e.Op {
	case api.OpAdd, api.OpSub, api.OpMul, api.OpAnd, api.OpOr, api.OpXor:
		return m.low(m.x.Args[0], e.Args[0], m.w) && m.low(m.x.Args[1], e.Args[1], m.w)
	case api.OpSelect:
		return m.x.Args[0] == e.Args[0] && m.low(m.x.Args[1], e.Args[1], m.w) && m.low(m.x.Args[2], e.Args[2], m.w)
	case api.OpShl:
		_, k, ok := m.byConst(e)
		return ok && k < uint64(m.w) && m.is(m.x.Args[1], k) && m.low(m.x.Args[0], e.Args[0], m.w)
	}
	return false
}

func isInvert(m *match) bool {
	p, c, ok := m.byConst(m.d)
	if !ok || m.d.Op != api.OpXor || m.w != 1 || c != 1 {
		return false
	}
	d := m.def(p)
	inverse, exchanged := 0, true
	switch d.Op {
	case api.OpEq:
		inverse, exchanged = api.OpNe, false
	case api.OpNe:
		inverse, exchanged = api.OpEq, false
	case api.OpULt:
		inverse = api.OpULe
	case api.OpULe:
		inverse = api.OpULt
	case api.OpSLt:
		inverse = api.OpSLe
	case api.OpSLe:
		inverse = api.OpSLt
	}
	a, b, ok := pair(m.x, inverse)
	if exchanged {
		a, b = b, a
	}
	return ok && inverse != 0 && a == d.Args[0] && b == d.Args[1]
}

func isShifts(m *match) bool {
	op := m.d.Op
	if op < api.OpShl || op > api.OpAShr || m.x.Op != op {
		return false
	}
	p, n, ok1 := m.byConst(m.d)
	inner := m.def(p)
	a, k, ok2 := m.byConst(inner)
	b, sum, ok3 := m.byConst(m.x)
	far := uint64(m.w)
	return ok1 && ok2 && ok3 && inner.Op == op && a == b && n < far && k < far && n+k < far && sum == n+k
}
