package types

import "jacquard/api"

// Open reports whether an expression consists of numbers whose type depends on its surroundings.
func Open(n api.Node) bool {
	switch n.Kind {
	case api.NodeNumber:
		return n.Type == api.Type{}
	case api.NodeUnary:
		return (n.Op == api.SrcNeg || n.Op == api.SrcNot) && len(n.Kids) == 1 && Open(n.Kids[0])
	case api.NodeBinary:
		return n.Op >= api.SrcAdd && n.Op <= api.SrcShr && len(n.Kids) == 2 && Open(n.Kids[0]) && Open(n.Kids[1])
	case api.NodeCond:
		return len(n.Kids) == 3 && Open(n.Kids[1]) && Open(n.Kids[2])
	}
	return false
}

// expr types an expression, with a wanted type unless that is zero, and returns its type.
func (c *checker) expr(n *api.Node, wanted api.Type) api.Type {
	if wanted == (api.Type{}) && Open(*n) {
		fail(n.Line, api.ErrType)
	}
	t := c.own(n, wanted)
	if wanted != (api.Type{}) && t != wanted {
		fail(n.Line, api.ErrType)
	}
	n.Type = t
	return t
}

// own types the kids of an expression, and returns its own type.
func (c *checker) own(n *api.Node, wanted api.Type) api.Type {
	switch n.Kind {
	case api.NodeNumber:
		return number(n, wanted)
	case api.NodeName:
		s := c.find(n.Name)
		if s.kind != kindVariable && s.kind != kindFixed {
			fail(n.Line, api.ErrName)
		}
		return s.typ
	case api.NodeRecv:
		return c.named(n, kindIn)
	case api.NodeIndex:
		t := c.named(n, kindArray)
		c.index(n)
		return t
	case api.NodeCall:
		return c.call(n)
	case api.NodeUnary:
		if n.Op == api.SrcIsZero {
			return c.expr(&n.Kids[0], truth)
		}
		return c.expr(&n.Kids[0], wanted)
	case api.NodeBinary:
		return c.binary(n, wanted)
	case api.NodeCond:
		c.expr(&n.Kids[0], truth)
		return c.alike(&n.Kids[1], &n.Kids[2], wanted)
	}
	// What remains is a cast.
	c.free(&n.Kids[0], n.Type)
	return n.Type
}

// number returns the type of a number.
func number(n *api.Node, wanted api.Type) api.Type {
	if n.Type == truth {
		return truth
	}
	if wanted.Width < api.MaxWidth && n.Num>>uint(wanted.Width) != 0 {
		fail(n.Line, api.ErrType)
	}
	return wanted
}

// free types an expression without a wanted type, unless it is open.
func (c *checker) free(n *api.Node, ifOpen api.Type) api.Type {
	if Open(*n) {
		return c.expr(n, ifOpen)
	}
	return c.expr(n, api.Type{})
}

// index types the index of an Index or a Store.
func (c *checker) index(n *api.Node) {
	if c.free(&n.Kids[0], index).Signed {
		fail(n.Line, api.ErrType)
	}
}

func (c *checker) call(n *api.Node) api.Type {
	f, ok := c.functions[n.Name]
	if !ok {
		fail(n.Line, api.ErrName)
	}
	if len(f.Kids)-1 != len(n.Kids) {
		fail(n.Line, api.ErrType)
	}
	for i := range n.Kids {
		c.expr(&n.Kids[i], f.Kids[i].Type)
	}
	return f.Type
}

// alike types two expressions that have the same type.
func (c *checker) alike(a, b *api.Node, wanted api.Type) api.Type {
	switch {
	case wanted != api.Type{}:
		c.expr(a, wanted)
		return c.expr(b, wanted)
	case Open(*a):
		a, b = b, a
	}
	return c.expr(b, c.expr(a, api.Type{}))
}

func (c *checker) binary(n *api.Node, wanted api.Type) api.Type {
	a, b := &n.Kids[0], &n.Kids[1]
	switch {
	case n.Op == api.SrcBoth || n.Op == api.SrcEither:
		return c.alike(a, b, truth)
	case n.Op < api.SrcEq:
		return c.alike(a, b, wanted)
	case Open(*a) && Open(*b):
		fail(n.Line, api.ErrType)
	}
	c.alike(a, b, api.Type{})
	return truth
}

// calls appends the functions that a tree calls to a list.
func calls(n api.Node, numbers map[string]int, list []int) []int {
	if n.Kind == api.NodeCall {
		list = append(list, numbers[n.Name])
	}
	for _, k := range n.Kids {
		list = calls(k, numbers, list)
	}
	return list
}

// recursive returns the first function that calls itself, directly or through others, and true.
func recursive(n api.Node) (api.Node, bool) {
	numbers := map[string]int{}
	for i, k := range n.Kids {
		numbers[k.Name] = i
	}
	next := make([][]int, len(n.Kids))
	for i, k := range n.Kids {
		next[i] = calls(k, numbers, nil)
	}
	if !cyclic(next) {
		return api.Node{}, false
	}
	for i, k := range n.Kids {
		if returns(next, i) {
			return k, true
		}
	}
	return api.Node{}, false
}

// cyclic reports whether a call graph has a cycle.
func cyclic(next [][]int) bool {
	const (
		open = 1 + iota
		closed
	)
	state := make([]int, len(next))
	var visit func(v int) bool
	visit = func(v int) bool {
		state[v] = open
		for _, w := range next[v] {
			if state[w] == open || state[w] == 0 && visit(w) {
				return true
			}
		}
		state[v] = closed
		return false
	}
	for v := range next {
		if state[v] == 0 && visit(v) {
			return true
		}
	}
	return false
}

// returns reports whether a way leads from a function back to it.
func returns(next [][]int, from int) bool {
	seen := make([]bool, len(next))
	var visit func(v int)
	visit = func(v int) {
		for _, w := range next[v] {
			if !seen[w] {
				seen[w] = true
				visit(w)
			}
		}
	}
	visit(from)
	return seen[from]
}
