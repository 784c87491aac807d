package refute

import (
	"math/rand"
	"reflect"
	"slices"
	"strings"
	"testing"

	"jacquard/api"
	"jacquard/modsched"
)

func flow(needs []api.Need, res []api.Resource, arcs ...api.Arc) Flow {
	n := len(needs)
	f := Flow{Insts: n, Loop: true, Res: res, Needs: needs}
	for i := range n {
		f.Arcs = append(f.Arcs, api.Arc{From: n, To: i})
	}
	f.Arcs = append(f.Arcs, api.Arc{From: n, To: n + 1})
	for i := range n {
		f.Arcs = append(f.Arcs, api.Arc{From: i, To: n + 1, Lat: max(1, needs[i].Busy)})
	}
	f.Arcs = append(f.Arcs, arcs...)
	return f
}

func two() Flow {
	return flow([]api.Need{{Busy: 2}, {Busy: 2}}, []api.Resource{{Kind: 1, Count: 1}})
}

// example is the tree of the chapter's example.
func example() []RefNode {
	tree := []RefNode{{Kind: api.RefSplit, Inst: 0, Kids: []int{1, 2, 3}}}
	for i := range 3 {
		tree = append(tree, RefNode{Kind: api.RefSplit, Inst: 1, Kids: []int{4 + 3*i, 5 + 3*i, 6 + 3*i}})
	}
	for i := range 3 {
		for j := range 3 {
			slot := i
			for d := range 2 {
				if s := (i + d) % 3; s == j || s == (j+1)%3 {
					slot = s
				}
			}
			tree = append(tree, RefNode{Kind: api.RefFull, Slot: slot})
		}
	}
	return tree
}

func TestExample(t *testing.T) {
	f, tree := two(), example()
	if !Check(f, 3, tree) || Depth(f, 3, tree) != 3 || len(tree) != 13 {
		t.Error("example")
	}
	long := []RefNode{{Kind: api.RefLong}}
	if !Check(f, 1, long) || Check(f, 2, long) || Depth(f, 2, long) != 0 {
		t.Error("long")
	}
	s, e := Format(Refutation{II: 1, Tree: long})
	if e != api.OK || s != "interval 1\nlong 0\n" {
		t.Error(s)
	}
	changes := []func(l []RefNode){
		func(l []RefNode) { l[0].Kids = []int{1, 2} }, func(l []RefNode) { l[0].Kids = []int{1, 2, 2} }, func(l []RefNode) { l[0].Inst = 2 }, func(l []RefNode) { l[1].Inst = 0 }, func(l []RefNode) { l[4].Slot = 3 }, func(l []RefNode) { l[4].Slot = 2 }, func(l []RefNode) { l[4].Unit = 1 }, func(l []RefNode) { l[4].Res = 1 }, func(l []RefNode) { l[4].Kind = 0 }, func(l []RefNode) { l[4].Kids = []int{5} }, func(l []RefNode) { l[1].Kids[0] = 0 }, func(l []RefNode) { l[1].Kids[0] = 99 }, func(l []RefNode) { l[4].Kind = api.RefLong },
	}
	for i, change := range changes {
		l := example()
		change(l)
		if Check(f, 3, l) || Trim(f, 3, l) != nil {
			t.Error("change", i)
		}
	}
	if Check(f, 3, nil) || Check(f, 0, tree) || Check(f, 257, tree) || Check(Flow{}, 3, tree) || Check(f, 3, append(example(), RefNode{Kind: api.RefFull})) {
		t.Error("wrong arguments")
	}
}

func TestWalk(t *testing.T) {
	f := flow([]api.Need{{Busy: 1}, {Res: -1}}, []api.Resource{{Kind: 1, Count: 1}}, api.Arc{From: 0, To: 1, Lat: 2}, api.Arc{From: 1, To: 0, Lat: 1, Dist: 1})
	there, back := 5, 6
	for _, c := range []struct {
		slots, walk []int
		ii, sum     int
		ok          bool
	}{
		{nil, []int{there, back}, 2, 1, true}, {nil, []int{back, there}, 2, 1, true}, {nil, []int{there, back}, 3, 0, true}, {[]int{2}, []int{there, back}, 4, 0, true}, {[]int{2}, []int{back, there}, 4, 0, false}, {[]int{1, 0}, []int{there, back}, 2, 2, true}, {[]int{7, 0}, []int{there, back}, 2, 2, true}, {[]int{-1, 0}, []int{back, there}, 2, 2, true}, {[]int{0, 1}, []int{there, back, there, back}, 4, 8, true},
		{nil, nil, 2, 0, false}, {nil, []int{there}, 2, 0, false}, {nil, []int{-1}, 2, 0, false}, {nil, []int{there, 99}, 2, 0, false}, {nil, []int{there, back}, 0, 0, false},
	} {
		if sum, ok := Walk(f, c.ii, c.slots, c.walk); sum != c.sum || ok != c.ok {
			t.Error(c, sum, ok)
		}
	}
	if sum, ok := Walk(Flow{}, 2, nil, []int{0}); sum != 0 || ok {
		t.Error("not valid")
	}
}

// holds reports whether the condition of leaf b holds with what the ancestors of a split a fix.
func holds(f Flow, ii int, tree []RefNode, a, b int) bool {
	c := &checker{f, ii, tree, map[int]place{}}
	var find func(x int) bool
	find = func(x int) bool {
		if x == a {
			return c.leaf(&tree[b])
		}
		units := 0
		if tree[x].Kind == api.RefSplit {
			units, _ = c.units(tree[x].Inst)
		}
		for j, k := range tree[x].Kids {
			c.fixed[tree[x].Inst] = place{j / units, j % units}
			if find(k) {
				return true
			}
			delete(c.fixed, tree[x].Inst)
		}
		return false
	}
	return find(0)
}

func TestTrim(t *testing.T) {
	r := rand.New(rand.NewSource(1))
	trimmed := 0
	for range 2000 {
		n := 1 + r.Intn(3)
		var needs []api.Need
		for range n {
			needs = append(needs, api.Need{Busy: 1 + r.Intn(3)})
		}
		var arcs []api.Arc
		for range r.Intn(5) {
			arcs = append(arcs, api.Arc{From: r.Intn(n), To: r.Intn(n), Lat: r.Intn(5), Dist: 1 + r.Intn(2)})
		}
		f := flow(needs, []api.Resource{{Kind: 1, Count: 1 + r.Intn(2)}}, arcs...)
		ii := 1 + r.Intn(4)
		_, tree, _, _ := modsched.Try(f, ii, 4000)
		if tree == nil {
			continue
		}
		// A split too much at the root.
		wide := deepen(tree, f, ii)
		if wide != nil && !Check(f, ii, wide) {
			t.Fatal("deepen")
		}
		for _, x := range [][]RefNode{tree, wide} {
			if x == nil {
				continue
			}
			small := Trim(f, ii, x)
			if !Check(f, ii, small) || len(small) > len(x) {
				t.Fatal(f, ii, x, small)
			}
			if len(small) < len(x) {
				trimmed++
			}
			below := make([][]int, len(small))
			for a := len(small) - 1; a >= 0; a-- {
				for _, k := range small[a].Kids {
					below[a] = append(append(below[a], k), below[k]...)
				}
				for _, b := range below[a] {
					if small[b].Kind != api.RefSplit && holds(f, ii, small, a, b) {
						t.Fatal("a leaf holds earlier")
					}
				}
			}
			s, e := Format(Refutation{II: ii, Tree: small})
			back, pe := Parse(s)
			if e == api.OK && (pe != api.OK || back.II != ii || !Check(f, ii, back.Tree)) {
				t.Fatal(s, e, pe)
			}
		}
	}
	if trimmed < 100 {
		t.Error(trimmed)
	}
}

// deepen puts a split of the first instruction above a tree that does not split it.
func deepen(tree []RefNode, f Flow, ii int) []RefNode {
	for _, n := range tree {
		if n.Kind == api.RefSplit || n.Kind == api.RefWalk {
			return nil
		}
	}
	out := []RefNode{{Kind: api.RefSplit}}
	for range ii {
		out[0].Kids = append(out[0].Kids, len(out))
		out = append(out, tree[0])
	}
	return out
}

func TestText(t *testing.T) {
	r := Refutation{II: -4, Tree: []RefNode{{Kind: api.RefSplit, Inst: 3, Kids: []int{1, -2}, Res: 7}, {Kind: api.RefWalk}, {Kind: api.RefWalk, Walk: []int{5, 6}}, {Kind: api.RefFull, Res: 1, Unit: 2, Slot: 3, Inst: 9}, {Kind: api.RefLong, Inst: 0}}}
	s, e := Format(r)
	if e != api.OK || s != "interval -4\nsplit 3 1 -2\nwalk\nwalk 5 6\nfull 1 2 3\nlong 0\n" {
		t.Error(s)
	}
	r.Tree[0].Res, r.Tree[3].Inst = 0, 0
	if got, e := Parse(s); e != api.OK || !reflect.DeepEqual(got.Tree[3:], r.Tree[3:]) || !slices.Equal(got.Tree[0].Kids, []int{1, -2}) || got.II != -4 || got.Tree[0].Res != 0 {
		t.Error(got, e)
	}
	for _, bad := range []string{"", "interval", "interval 1", "interval 1 2\n", "interval 01\n", "interval +1\n", "interval -0\n", "interval 1\n\n", "interval 1\nsplit\n", "interval 1\nfull 1 2\n", "interval 1\nlong\n", "interval 1\nlong 0 \n", "interval 1\nlong  0\n", "interval 1\nwalk 99999999999999999999\n", "interval 1\nfrob 1\n", "long 0\n", "interval 1\nlong 0", " interval 1\n", "interval 1\r\n"} {
		if r, e := Parse(bad); e != api.ErrSyntax || r.II != 0 || r.Tree != nil {
			t.Errorf("%q %d", bad, e)
		}
	}
	if _, e := Parse(strings.Repeat("x", api.MaxSource+1)); e != api.ErrLimit {
		t.Error(e)
	}
	if s, e := Format(Refutation{Tree: []RefNode{{}}}); e != api.ErrForm || s != "" {
		t.Error(e)
	}
	if s, e := Format(Refutation{Tree: []RefNode{{Kind: api.RefWalk, Walk: make([]int, 40000)}}}); e != api.ErrLimit || s != "" {
		t.Error(e)
	}
}
