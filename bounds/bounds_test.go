package bounds

import (
	"slices"
	"testing"

	"jacquard/api"
	"jacquard/dataflow"
	"jacquard/diffcons"
)

// flow makes a valid flow with some instructions and no parameters; lats are the latencies of the arcs to the end.
func flow(loop bool, needs []api.Need, res []api.Resource, lats []int, arcs ...api.Arc) Flow {
	n := len(needs)
	f := Flow{Insts: n, Loop: loop, Res: res, Needs: needs}
	for i := range n {
		f.Arcs = append(f.Arcs, api.Arc{From: n, To: i})
	}
	f.Arcs = append(f.Arcs, api.Arc{From: n, To: n + 1})
	for i := range n {
		f.Arcs = append(f.Arcs, api.Arc{From: i, To: n + 1, Lat: lats[i]})
	}
	f.Arcs = append(f.Arcs, arcs...)
	return f
}

func arc(from, to, lat, dist int) api.Arc {
	return api.Arc{From: from, To: to, Lat: lat, Dist: dist}
}

func unit(count int) []api.Resource {
	return []api.Resource{{Kind: api.ResUnit, Index: 1, Width: 8, Count: count}}
}

func busy(list ...int) []api.Need {
	var l []api.Need
	for _, b := range list {
		l = append(l, api.Need{Busy: b})
	}
	return l
}

func TestExample(t *testing.T) {
	cycle := []api.Arc{arc(0, 1, 2, 0), arc(1, 0, 1, 1)}
	f := flow(true, busy(1, 1), unit(1), []int{1, 1}, cycle...)
	if !dataflow.Valid(f) {
		t.Fatal("flow")
	}
	b, e := Recurrence(f)
	if e != api.OK || b.Kind != api.BoundCycle || b.II != 3 || !Check(f, b) {
		t.Error(b, e)
	}
	if l := Resources(f); len(l) != 1 || l[0].Kind != api.BoundCount || l[0].II != 2 || !Check(f, l[0]) {
		t.Error(l)
	}
	if b, e := Lower(f); e != api.OK || b.Kind != api.BoundCycle || b.II != 3 {
		t.Error(b)
	}
	f = flow(true, busy(2, 2), unit(1), []int{2, 2}, cycle...)
	if b, _ := Lower(f); b.II != 4 || b.Kind != api.BoundCount || !Check(f, b) {
		t.Error(b)
	}
	f = flow(true, busy(5, 1), unit(4), []int{5, 1})
	if b, _ := Lower(f); b.II != 5 || b.Kind != api.BoundBusy || !Check(f, b) {
		t.Error(b)
	}
	if b, e := Recurrence(f); e != api.OK || b.Kind != api.BoundOne || b.II != 1 || !Check(f, b) {
		t.Error(b)
	}
	g := flow(true, []api.Need{{Res: -1}}, unit(4), []int{1})
	if l := Resources(g); l[0].Kind != api.BoundOne || l[0].II != 1 {
		t.Error(l)
	}
}

func TestErrors(t *testing.T) {
	f := flow(true, busy(1, 1), unit(1), []int{1, 1}, arc(0, 1, 300, 0), arc(1, 0, 0, 1))
	if b, e := Recurrence(f); e != api.ErrInfeasible || b.II != 0 {
		t.Error(e)
	}
	if _, e := Lower(f); e != api.ErrInfeasible {
		t.Error(e)
	}
	var many []int
	for range 129 {
		many = append(many, 2)
	}
	g := flow(true, busy(many...), unit(1), many)
	if b, e := Lower(g); e != api.ErrInfeasible || b.II != 0 || Resources(g)[0].II != 258 {
		t.Error(e)
	}
	straight := flow(false, busy(1, 1), unit(1), []int{1, 1})
	if _, e := Recurrence(straight); e != api.ErrArg || Resources(straight) != nil || Check(straight, Bound{Kind: api.BoundOne, II: 1}) {
		t.Error(e)
	}
	bad := flow(true, busy(3), unit(1), []int{1})
	if _, e := Recurrence(bad); e != api.ErrForm || Resources(bad) != nil {
		t.Error(e)
	}
	if _, e := Depth(bad); e != api.ErrForm {
		t.Error(e)
	}
	if _, e := Depth(g); e != api.ErrArg {
		t.Error(e)
	}
	for _, b := range []Bound{{}, {Kind: api.BoundOne, II: 2}, {Kind: api.BoundCount, II: 259}, {Kind: api.BoundCount, II: 2, Res: 1}, {Kind: api.BoundBusy, II: 3}, {Kind: api.BoundCycle, II: 2}, {Kind: api.BoundCycle, II: 1, Cycle: []int{0}}, {Kind: 9, II: 1}} {
		if Check(g, b) {
			t.Error(b)
		}
	}
	if !Check(g, Bound{Kind: api.BoundCount, II: 256, Res: 0, Cycle: []int{77}}) {
		t.Error("other fields play a role")
	}
}

func TestDepth(t *testing.T) {
	f := flow(false, busy(2, 2, 2), unit(1), []int{2, 2, 2})
	if d, e := Depth(f); e != api.OK || d != 6 {
		t.Error(d, e)
	}
	f = flow(false, busy(2, 2, 2), unit(3), []int{2, 2, 5}, arc(0, 2, 3, 0))
	if d, e := Depth(f); e != api.OK || d != 8 {
		t.Error(d, e)
	}
	if d, e := Depth(flow(false, nil, nil, nil)); e != api.OK || d != 1 {
		t.Error(d, e)
	}
	if _, e := Depth(flow(false, busy(1), unit(1), []int{1}, arc(0, 0, 1, 0))); e != api.ErrInfeasible {
		t.Error(e)
	}
}

func TestWindow(t *testing.T) {
	f := flow(true, busy(1, 1), unit(1), []int{1, 1}, arc(0, 1, 2, 0), arc(1, 0, 1, 1))
	early, late, e := Window(f, 3, 5)
	if e != api.OK || !slices.Equal(early, []int{0, 2, 0, 3}) || !slices.Equal(late, []int{2, 4, 0, 5}) {
		t.Error(early, late, e)
	}
	if diffcons.Violated(4, f.Arcs, 3, late) >= 0 {
		t.Error("late")
	}
	for _, c := range []struct {
		ii, depth int
		e         api.Errno
	}{{0, 5, api.ErrForm}, {257, 5, api.ErrForm}, {3, -1, api.ErrForm}, {3, 4097, api.ErrForm}, {2, 5, api.ErrInfeasible}, {3, 2, api.ErrInfeasible}} {
		if a, b, e := Window(f, c.ii, c.depth); e != c.e || a != nil || b != nil {
			t.Error(c, e)
		}
	}
	if _, _, e := Window(flow(false, nil, nil, nil), 1, 5); e != api.ErrForm {
		t.Error(e)
	}
}
