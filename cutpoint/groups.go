package cutpoint

import "jacquard/api"

// groups are sets of past values that are the same.
type groups struct {
	parent map[spot]spot
	words  map[spot]uint64
	terms  map[spot]int
}

// root returns the value that stands for the set of a value.
func (g *groups) root(x spot) spot {
	for {
		p, ok := g.parent[x]
		if !ok || p == x {
			return x
		}
		x = p
	}
}

// join makes one set of those of two values.
func (g *groups) join(x, y spot) {
	a, b := g.root(x), g.root(y)
	g.parent[a] = a
	g.parent[b] = a
}

// word returns the word that the values of a set are, and true.
func (g *groups) word(x spot) (uint64, bool) {
	w, ok := g.words[g.root(x)]
	return w, ok
}

// term returns the term of the first value of a set that was computed, and true.
func (g *groups) term(x spot) (int, bool) {
	if _, ok := g.parent[x]; !ok {
		return 0, false
	}
	t, ok := g.terms[g.root(x)]
	return t, ok
}

// first notes the term of a value, if it is the first one of its set.
func (g *groups) first(x spot, t int) {
	if _, ok := g.parent[x]; !ok {
		return
	}
	r := g.root(x)
	if _, ok := g.terms[r]; !ok {
		g.terms[r] = t
	}
}

// joined returns the sets of the past values at the point.
func (m *Moment) joined() *groups {
	g := &groups{parent: map[spot]spot{}, words: map[spot]uint64{}, terms: map[spot]int{}}
	said := map[[2]int]spot{}
	for _, h := range m.P.Holds {
		x := spot{h.Value, h.Stage}
		if h.Kind != api.HoldValue || !m.past(x) {
			continue
		}
		place := [2]int{h.Cell, h.Slot}
		if y, ok := said[place]; ok {
			g.join(y, x)
		} else {
			said[place] = x
			g.join(x, x)
		}
	}
	for i, p := range m.blockParams() {
		for q := m.P.Lo; q < m.P.Hi; q++ {
			x, y := spot{p, q}, spot{m.argument(i), q + 1}
			if m.past(x) && m.past(y) {
				g.join(y, x)
			}
		}
	}
	for _, h := range m.P.Holds {
		if x, ok := said[[2]int{h.Cell, h.Slot}]; ok && h.Kind == api.HoldWord {
			if _, known := g.words[g.root(x)]; !known {
				g.words[g.root(x)] = h.Word
			}
		}
	}
	return g
}

// blockParams returns the parameters of the block of the point.
func (m *Moment) blockParams() []int {
	if m.block == nil || m.self < 0 {
		return nil
	}
	return m.block.Params
}
