package facts

import (
	"slices"

	"jacquard/api"
	"jacquard/bits"
	"jacquard/ir"
)

// After so many changes of a block, bounds go on to thresholds of constants, and to those of Top alone.
const (
	someChanges = 4
	manyChanges = 40
)

// taken returns the facts of the arguments of each edge of a block, nil for an edge that is never taken. scratch is a copy of known, and so it stays.
func taken(f api.Func, b int, known, scratch []Fact) [][]Fact {
	block := &f.Blocks[b]
	own := slices.Clone(block.Params)
	for _, in := range block.Insts {
		if in.Dest >= 0 {
			own = append(own, in.Dest)
		}
	}
	edges := make([][]Fact, len(block.Term.To))
	for i, e := range block.Term.To {
		if assume(f, b, i, scratch) {
			edges[i] = make([]Fact, 0, len(e.Args))
			for _, v := range e.Args {
				edges[i] = append(edges[i], scratch[v])
			}
		}
		for _, v := range own {
			scratch[v] = known[v]
		}
	}
	return edges
}

// reached reports which blocks are reached under known facts, and returns what taken returns for them.
func reached(f api.Func, known []Fact) ([]bool, [][][]Fact) {
	scratch := slices.Clone(known)
	seen := make([]bool, len(f.Blocks))
	edges := make([][][]Fact, len(f.Blocks))
	var visit func(b int)
	visit = func(b int) {
		seen[b] = true
		edges[b] = taken(f, b, known, scratch)
		for i, e := range f.Blocks[b].Term.To {
			if edges[b][i] != nil && !seen[e.Block] {
				visit(e.Block)
			}
		}
	}
	visit(0)
	return seen, edges
}

// Check returns ErrForm unless facts are inductive for a function.
func Check(f api.Func, known []Fact) api.Errno {
	if !fits(f, known) || !inductive(f, known) {
		return api.ErrForm
	}
	return api.OK
}

// inductive decides Check for a valid function with valid facts.
func inductive(f api.Func, known []Fact) bool {
	for _, p := range f.Blocks[0].Params {
		if known[p] != Top(f.Widths[p]) {
			return false
		}
	}
	seen, edges := reached(f, known)
	for b, block := range f.Blocks {
		if !seen[b] {
			continue
		}
		for i := range block.Insts {
			in := &block.Insts[i]
			if in.Dest >= 0 && !Leq(apply(f, in, known), known[in.Dest]) {
				return false
			}
		}
		for i, e := range block.Term.To {
			for j, x := range edges[b][i] {
				if !Leq(x, known[f.Blocks[e.Block].Params[j]]) {
					return false
				}
			}
		}
	}
	return true
}

// analysis computes facts; has says which blocks have some, changes counts how often their parameters changed.
type analysis struct {
	f       api.Func
	known   []Fact
	scratch []Fact
	has     []bool
	changes []int
	// For each width, the thresholds in ascending order, as words and as signed numbers.
	words   [api.MaxWidth + 1][]uint64
	numbers [api.MaxWidth + 1][]int64
}

// Analyze returns facts about all values of a function.
func Analyze(f api.Func) []Fact {
	if !ir.Valid(f) {
		return nil
	}
	n := len(f.Blocks)
	a := &analysis{f: f, known: make([]Fact, len(f.Widths)), has: make([]bool, n), changes: make([]int, n)}
	// Values of blocks that are never reached keep Top.
	for v, w := range f.Widths {
		a.known[v] = Top(w)
	}
	a.scratch = slices.Clone(a.known)
	a.thresholds()
	a.has[0] = true
	for a.round() {
	}
	return fall(f, a.known)
}

// thresholds collects the thresholds of all widths.
func (a *analysis) thresholds() {
	for _, block := range a.f.Blocks {
		for _, in := range block.Insts {
			if in.Op == api.OpConst {
				w := a.f.Widths[in.Dest]
				a.words[w] = append(a.words[w], in.Num, bits.Fit(w, in.Num-1), bits.Fit(w, in.Num+1))
			}
		}
	}
	for w := 1; w <= api.MaxWidth; w++ {
		for _, n := range a.words[w] {
			a.numbers[w] = append(a.numbers[w], bits.Signed(w, n))
		}
		slices.Sort(a.words[w])
		slices.Sort(a.numbers[w])
	}
}

// round goes through all blocks once, and reports whether something changed.
func (a *analysis) round() bool {
	changed := false
	for b := range a.f.Blocks {
		if !a.has[b] {
			continue
		}
		block := &a.f.Blocks[b]
		for _, p := range block.Params {
			a.scratch[p] = a.known[p]
		}
		for i := range block.Insts {
			in := &block.Insts[i]
			if in.Dest < 0 {
				continue
			}
			x := apply(a.f, in, a.known)
			changed = changed || x != a.known[in.Dest]
			a.known[in.Dest], a.scratch[in.Dest] = x, x
		}
		for i, args := range taken(a.f, b, a.known, a.scratch) {
			if args != nil && a.enter(block.Term.To[i].Block, args) {
				changed = true
			}
		}
	}
	return changed
}

// enter joins the facts of arguments to those of the parameters of a block, and reports whether that changes something.
func (a *analysis) enter(b int, args []Fact) bool {
	params := a.f.Blocks[b].Params
	if !a.has[b] {
		a.has[b] = true
		for i, p := range params {
			a.known[p] = args[i]
		}
		return true
	}
	changed := false
	joined := make([]Fact, len(args))
	for i, p := range params {
		joined[i] = Join(a.known[p], args[i])
		changed = changed || joined[i] != a.known[p]
	}
	if !changed {
		return false
	}
	a.changes[b]++
	for i, p := range params {
		a.known[p] = a.widen(a.f.Widths[p], a.changes[b], a.known[p], joined[i])
	}
	return true
}

// widen moves the bounds of a fact that differ from those of the old one to thresholds.
func (a *analysis) widen(w, changes int, old, x Fact) Fact {
	if changes < someChanges {
		return x
	}
	top := Top(w)
	words, numbers := a.words[w], a.numbers[w]
	if changes >= manyChanges {
		words, numbers = nil, nil
	}
	if x.Lo != old.Lo {
		x.Lo = below(words, x.Lo, top.Lo)
	}
	if x.Hi != old.Hi {
		x.Hi = above(words, x.Hi, top.Hi)
	}
	if x.Least != old.Least {
		x.Least = below(numbers, x.Least, top.Least)
	}
	if x.Most != old.Most {
		x.Most = above(numbers, x.Most, top.Most)
	}
	return x
}

// below returns the greatest element of a sorted list that is at most x, or the last resort.
func below[T uint64 | int64](list []T, x, last T) T {
	i, found := slices.BinarySearch(list, x)
	switch {
	case found:
		return x
	case i > 0:
		return max(list[i-1], last)
	}
	return last
}

// above returns the least element of a sorted list that is at least x, or the last resort.
func above[T uint64 | int64](list []T, x, last T) T {
	i, _ := slices.BinarySearch(list, x)
	if i < len(list) {
		return list[i]
	}
	return last
}

// fall computes closer facts from facts, a few times.
func fall(f api.Func, known []Fact) []Fact {
	for range 3 {
		next := slices.Clone(known)
		seen, edges := reached(f, known)
		started := make([]bool, len(f.Blocks))
		for b, block := range f.Blocks {
			for i, e := range block.Term.To {
				if !seen[b] || edges[b][i] == nil {
					continue
				}
				for j, p := range f.Blocks[e.Block].Params {
					if started[e.Block] {
						next[p] = Join(next[p], edges[b][i][j])
					} else {
						next[p] = edges[b][i][j]
					}
				}
				started[e.Block] = true
			}
		}
		for b, block := range f.Blocks {
			for i := range block.Insts {
				if in := &block.Insts[i]; seen[b] && in.Dest >= 0 {
					next[in.Dest] = apply(f, in, next)
				}
			}
		}
		if slices.Equal(next, known) || !inductive(f, next) {
			return known
		}
		known = next
	}
	return known
}
