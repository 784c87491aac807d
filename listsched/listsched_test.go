package listsched

import (
	"math/rand"
	"reflect"
	"slices"
	"testing"

	"jacquard/api"
	"jacquard/bounds"
	"jacquard/dataflow"
	"jacquard/diffcons"
	"jacquard/schedcheck"
)

// flow makes a flow of instructions; lats are the latencies of the arcs to the end.
func flow(params int, needs []api.Need, res []api.Resource, lats []int, arcs ...api.Arc) Flow {
	n := len(needs)
	f := Flow{Insts: n, Params: params, Res: res, Needs: needs}
	for i := range n + params {
		f.Arcs = append(f.Arcs, api.Arc{From: n + params, To: i})
	}
	f.Arcs = append(f.Arcs, api.Arc{From: n + params, To: n + params + 1})
	for i := range n + params {
		f.Arcs = append(f.Arcs, api.Arc{From: i, To: n + params + 1, Lat: lats[i]})
	}
	f.Arcs = append(f.Arcs, arcs...)
	return f
}

func random(r *rand.Rand) Flow {
	n, params := r.Intn(8), r.Intn(3)
	var res []api.Resource
	for range 1 + r.Intn(3) {
		res = append(res, api.Resource{Kind: 1, Count: 1 + r.Intn(3)})
	}
	var needs []api.Need
	var lats []int
	for range n {
		x := api.Need{Res: r.Intn(len(res)+1) - 1}
		if x.Res >= 0 {
			x.Busy = 1 + r.Intn(4)
		}
		needs = append(needs, x)
		lats = append(lats, max(1, x.Busy)+r.Intn(2))
	}
	for range params {
		lats = append(lats, r.Intn(2))
	}
	var arcs []api.Arc
	for range r.Intn(2*n + 1) {
		a, b := r.Intn(n+params), r.Intn(n)
		if a < b || a >= n {
			arcs = append(arcs, api.Arc{From: a, To: b, Lat: r.Intn(4)})
		}
	}
	return flow(params, needs, res, lats, arcs...)
}

func TestRandom(t *testing.T) {
	r := rand.New(rand.NewSource(1))
	for range 4000 {
		f := random(r)
		s, e := Schedule(f)
		if e != api.OK || schedcheck.Check(f, s) != api.OK {
			t.Fatal(f, s, e)
		}
		early, _ := diffcons.Earliest(dataflow.Nodes(f), f.Arcs, 0)
		sum := 0
		for _, i := range Contested(f) {
			sum += f.Needs[i].Busy
		}
		least := max(1, early[dataflow.End(f)])
		lower, _ := bounds.Depth(f)
		if s.Depth < lower || s.Depth > least+sum {
			t.Fatal(f, s, least, sum)
		}
		if len(Contested(f)) == 0 && (!slices.Equal(s.Start, early[:f.Insts]) || s.Depth != least) {
			t.Fatal("not the least solution", f, s)
		}
		compactness(t, r, f, s)
	}
}

// compactness compacts a schedule that is looser than necessary.
func compactness(t *testing.T, r *rand.Rand, f Flow, s Sched) {
	t.Helper()
	loose := Sched{Depth: 3*s.Depth + r.Intn(5), Params: s.Params, Unit: s.Unit}
	for _, x := range s.Start {
		loose.Start = append(loose.Start, 3*x+r.Intn(2))
	}
	if schedcheck.Check(f, loose) != api.OK {
		loose = s
	}
	c, e := Compact(f, loose)
	if e != api.OK || schedcheck.Check(f, c) != api.OK || c.Depth > loose.Depth || !slices.Equal(c.Unit, loose.Unit) {
		t.Fatal(f, loose, c, e)
	}
	for i := range c.Start {
		if c.Start[i] > loose.Start[i] {
			t.Fatal("later")
		}
		for x := range c.Start[i] {
			d := c
			d.Start = slices.Clone(c.Start)
			d.Start[i] = x
			if schedcheck.Check(f, d) == api.OK {
				t.Fatal("not compact", f, c, i, x)
			}
		}
	}
	d := c
	d.Depth--
	if schedcheck.Check(f, d) == api.OK {
		t.Fatal("depth")
	}
	if again, _ := Compact(f, c); !reflect.DeepEqual(again, c) {
		t.Fatal("again")
	}
}

func TestExample(t *testing.T) {
	needs := []api.Need{{Busy: 2}, {Busy: 2}, {Busy: 2}}
	f := flow(0, needs, []api.Resource{{Kind: 1, Count: 1}}, []int{2, 2, 2})
	if !slices.Equal(Contested(f), []int{0, 1, 2}) {
		t.Error(Contested(f))
	}
	if s, e := Schedule(f); e != api.OK || s.Depth != 6 {
		t.Error(s, e)
	}
	f.Res[0].Count = 3
	if s, e := Schedule(f); e != api.OK || s.Depth != 2 || !slices.Equal(s.Start, []int{0, 0, 0}) || Contested(f) != nil {
		t.Error(s, e)
	}
	if s, e := Schedule(flow(0, nil, nil, nil)); e != api.OK || s.Depth != 1 {
		t.Error(s, e)
	}
}

func TestErrors(t *testing.T) {
	res := []api.Resource{{Kind: 1, Count: 1}}
	one := []api.Need{{Busy: 1}, {Busy: 1}}
	lats := []int{1, 1, 0}
	for i, c := range []struct {
		f Flow
		e api.Errno
	}{
		{Flow{Insts: 1}, api.ErrForm}, {flow(1, one, res, lats, api.Arc{From: 0, To: 1, Lat: 1}, api.Arc{From: 1, To: 0}), api.ErrInfeasible}, {flow(1, one, res, lats, api.Arc{From: 0, To: 1}, api.Arc{From: 1, To: 0}), api.ErrInfeasible}, {flow(1, one, res, lats, api.Arc{From: 0, To: 2}), api.ErrInfeasible}, {flow(1, one, res, lats, api.Arc{From: 0, To: 3}), api.ErrInfeasible},
		{flow(1, one, res, lats, api.Arc{From: 3, To: 2, Lat: 1}), api.ErrInfeasible}, {flow(1, one, res, lats, api.Arc{From: 1, To: 1}), api.ErrInfeasible}, {flow(1, one, res, lats, api.Arc{From: 0, To: 1, Lat: 4096}, api.Arc{From: 3, To: 0, Lat: 10}), api.ErrLimit},
	} {
		if s, e := Schedule(c.f); e != c.e || s.Depth != 0 {
			t.Error(i, s, e)
		}
	}
	loop := flow(1, one, res, lats)
	loop.Loop = true
	if _, e := Schedule(loop); e != api.ErrArg {
		t.Error(e)
	}
	if _, e := Compact(loop, Sched{II: 2, Depth: 2, Start: []int{0, 1}, Params: []int{0}, Unit: []int{0, 0}}); e != api.ErrArg {
		t.Error(e)
	}
	loop.Loop = false
	if _, e := Compact(loop, Sched{Depth: 2, Start: []int{0, 0}, Params: []int{0}, Unit: []int{0, 0}}); e != api.ErrIllegal {
		t.Error(e)
	}
	if _, e := Compact(loop, Sched{}); e != api.ErrForm || Contested(Flow{Insts: -1}) != nil {
		t.Error(e)
	}
}
