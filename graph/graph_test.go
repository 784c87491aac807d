package graph

import (
	"math/rand"
	"slices"
	"testing"
)

func pairs(ends ...int) []Link {
	var l []Link
	for i := 0; i < len(ends); i += 2 {
		l = append(l, Link{From: ends[i], To: ends[i+1]})
	}
	return l
}

func random(r *rand.Rand, n, m int) Graph {
	g := Graph{N: n}
	for range m {
		g.Links = append(g.Links, Link{From: r.Intn(n+2) - 1, To: r.Intn(n+2) - 1})
	}
	return g
}

func TestExample(t *testing.T) {
	g := Graph{N: 4, Links: pairs(0, 1, 0, 2, 1, 3, 2, 3, 2, 3, 9, 0, 0, -1)}
	if l, ok := Topo(g); !ok || !slices.Equal(l, []int{0, 1, 2, 3}) {
		t.Error(l, ok)
	}
	if l := Dominators(g, 0); !slices.Equal(l, []int{-1, 0, 0, 0}) {
		t.Error(l)
	}
	w := []int{1, 5, 2, 1, 100}
	if l, ok := Longest(g, w); !ok || !slices.Equal(l, []int{1, 6, 3, 7}) {
		t.Error(l)
	}
	if p, x, ok := Critical(g, w); !ok || x != 7 || !slices.Equal(p, []int{0, 1, 3}) {
		t.Error(p, x)
	}
	g.Links = append(g.Links, Link{From: 3, To: 1})
	if l, ok := Topo(g); ok || l != nil {
		t.Error(l)
	}
	if l, ok := Longest(g, w); ok || l != nil {
		t.Error(l)
	}
	if p, x, ok := Critical(g, w); ok || x != 0 || p != nil {
		t.Error(p, x)
	}
	if l := Components(g); !slices.Equal(l, []int{0, 1, 2, 1}) {
		t.Error(l)
	}
	if c := Cycle(g); len(c) != 2 {
		t.Error(c)
	}
}

func TestEdges(t *testing.T) {
	if p, x, ok := Critical(Graph{N: -3}, nil); !ok || x != 0 || p != nil {
		t.Error("empty")
	}
	if l, ok := Topo(Graph{}); !ok || len(l) != 0 {
		t.Error("empty order")
	}
	if len(Next(Graph{N: 1 << 40})) != 20000 || Turn(Graph{N: 30000}).N != 20000 || Turn(Graph{N: -1}).N != 0 {
		t.Error("limits")
	}
	if l := Dominators(Graph{N: 2}, 2); !slices.Equal(l, []int{-1, -1}) {
		t.Error(l)
	}
	if l := Reach(Graph{N: 2}, -1); !slices.Equal(l, []bool{false, false}) {
		t.Error(l)
	}
	if c := Cycle(Graph{N: 2, Links: pairs(1, 1)}); !slices.Equal(c, []int{1}) {
		t.Error(c)
	}
	if l, _ := Longest(Graph{N: 2, Links: pairs(0, 1)}, []int{-1 << 40, 1 << 40}); !slices.Equal(l, []int{-1 << 30, 1 << 30}) {
		t.Error(l)
	}
	if p, x, _ := Critical(Graph{N: 2}, []int{-5, -2}); x != -2 || !slices.Equal(p, []int{1}) {
		t.Error(p, x)
	}
}

func TestLong(t *testing.T) {
	g := Graph{N: 20000}
	for v := range 19999 {
		g.Links = append(g.Links, Link{From: v + 1, To: v})
	}
	if d := Dominators(g, 19999); d[0] != 1 {
		t.Error("dominators of a long chain")
	}
	if p, _, ok := Critical(g, []int{1, 1}); !ok || len(p) == 0 {
		t.Error("critical")
	}
}

func TestLaws(t *testing.T) {
	r := rand.New(rand.NewSource(1))
	for range 3000 {
		n := 1 + r.Intn(7)
		g := random(r, n, r.Intn(2*n+1))
		next := Next(g)
		for v, l := range next {
			if !slices.IsSorted(l) || len(slices.Compact(slices.Clone(l))) != len(l) {
				t.Fatal(v, l)
			}
		}
		comp := Components(g)
		own := true
		for v := range n {
			own = own && comp[v] == v && !slices.Contains(next[v], v)
			for w := range n {
				same := Reach(g, v)[w] && Reach(g, w)[v]
				if same != (comp[v] == comp[w]) || same && comp[v] > w {
					t.Fatal("components", g)
				}
			}
		}
		order, ok := Topo(g)
		c := Cycle(g)
		if ok != (c == nil) || ok != own {
			t.Fatal("topo", g)
		}
		for i, v := range c {
			if !slices.Contains(next[v], c[(i+1)%len(c)]) || slices.Index(c, v) != i {
				t.Fatal("cycle", g, c)
			}
		}
		for v, l := range next {
			for _, w := range l {
				if ok && slices.Index(order, v) >= slices.Index(order, w) {
					t.Fatal("order", g)
				}
			}
		}
		if !slices.Equal(Components(Turn(g)), comp) {
			t.Fatal("turned components")
		}
		if !slices.EqualFunc(Next(Turn(Turn(g))), next, slices.Equal[[]int]) {
			t.Fatal("turn")
		}
		checkDominators(t, g, r.Intn(n))
	}
}

func checkDominators(t *testing.T, g Graph, root int) {
	t.Helper()
	next := Next(g)
	all := reach(next, root, -1)
	idom := Dominators(g, root)
	dominates := func(d, v int) bool { return all[v] && (d == v || !reach(next, root, d)[v]) }
	for v := range next {
		want := -1
		for d := range next {
			if v == root || d == v || !all[v] || !dominates(d, v) {
				continue
			}
			closest := true
			for e := range next {
				closest = closest && (e == v || !dominates(e, v) || dominates(e, d))
			}
			if closest {
				want = d
			}
		}
		if idom[v] != want {
			t.Fatal("dominators", g, root, idom, v, want)
		}
	}
}
