package term

import (
	"slices"

	"jacquard/api"
	"jacquard/bits"
)

// join returns a term of an associative operator. Its arguments are taken apart into parts that have no such operator; these are joined in ascending order, and a word comes last.
func (t *Table) join(op, width int, args ...int) int {
	word, _ := bits.Identity(op, width)
	var parts []int
	var collect func(x int)
	collect = func(x int) {
		n := &t.Nodes[x]
		switch {
		case n.Op == api.OpConst:
			word, _ = bits.Binary(op, width, word, n.Num)
		case n.Op == op && n.Args[0] != n.Args[1]:
			left, right := n.Args[0], n.Args[1]
			collect(left)
			collect(right)
		default:
			parts = append(parts, x)
		}
	}
	for _, a := range args {
		collect(a)
	}
	slices.Sort(parts)
	parts = t.repeated(op, width, parts)
	if n, ok := absorbing(op, width); ok && word == n {
		return t.word(width, n)
	}
	if len(parts) == 0 {
		return t.word(width, word)
	}
	x := parts[0]
	for _, p := range parts[1:] {
		x = t.find(Node{Op: op, Width: width, Args: []int{x, p}})
	}
	if id, _ := bits.Identity(op, width); word != id {
		x = t.find(Node{Op: op, Width: width, Args: []int{x, t.word(width, word)}})
	}
	return x
}

// absorbing returns the word that makes all other arguments of an operator irrelevant, and true.
func absorbing(op, width int) (uint64, bool) {
	switch op {
	case api.OpAnd, api.OpMul:
		return 0, true
	case api.OpOr:
		return bits.Mask(width), true
	}
	return 0, false
}

// repeated handles parts that occur more than once, in a sorted list: of And and Or one is enough, of Xor two are none. Of Add and Mul two become a part of their own, a double or a square, so that the list stays short however often a part occurs.
func (t *Table) repeated(op, width int, parts []int) []int {
	var out []int
	for len(parts) > 0 {
		x := parts[0]
		n := 1
		for n < len(parts) && parts[n] == x {
			n++
		}
		parts = parts[n:]
		switch op {
		case api.OpAnd, api.OpOr:
			n = 1
		case api.OpXor:
			n %= 2
		}
		if n%2 == 1 {
			out = append(out, x)
		}
		if n < 2 {
			continue
		}
		double := t.find(Node{Op: op, Width: width, Args: []int{x, x}})
		for range n / 2 {
			// A double comes behind its part, so it is counted later.
			at, _ := slices.BinarySearch(parts, double)
			parts = slices.Insert(parts, at, double)
		}
	}
	return out
}
