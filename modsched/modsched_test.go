package modsched

import (
	"math/rand"
	"testing"

	"jacquard/api"
	"jacquard/bounds"
	"jacquard/dataflow"
	"jacquard/depend"
	"jacquard/diffcons"
	"jacquard/facts"
	"jacquard/listsched"
	"jacquard/refute"
	"jacquard/sample"
	"jacquard/sample/lowered"
	"jacquard/schedcheck"
)

// flow makes a loop of instructions; lats are the latencies of the arcs to the end.
func flow(params int, needs []api.Need, res []api.Resource, lats []int, arcs ...api.Arc) Flow {
	n := len(needs)
	f := Flow{Insts: n, Params: params, Loop: true, Res: res, Needs: needs}
	for i := range n + params {
		f.Arcs = append(f.Arcs, api.Arc{From: n + params, To: i})
	}
	f.Arcs = append(f.Arcs, api.Arc{From: n + params, To: n + params + 1})
	for i := range n + params {
		f.Arcs = append(f.Arcs, api.Arc{From: i, To: n + params + 1, Lat: lats[i]})
	}
	f.Arcs = append(f.Arcs, arcs...)
	return f
}

func random(r *rand.Rand, most int) Flow {
	n, params := 1+r.Intn(most), r.Intn(3)
	var res []api.Resource
	for range 1 + r.Intn(2) {
		res = append(res, api.Resource{Kind: 1, Count: 1 + r.Intn(2)})
	}
	var needs []api.Need
	var lats []int
	for range n {
		x := api.Need{Res: r.Intn(len(res)+1) - 1}
		if x.Res >= 0 {
			x.Busy = 1 + r.Intn(3)
		}
		needs = append(needs, x)
		lats = append(lats, max(1, x.Busy)+r.Intn(2))
	}
	for range params {
		lats = append(lats, r.Intn(2))
	}
	var arcs []api.Arc
	for range r.Intn(2*n + 2) {
		a, b := r.Intn(n+params+1), r.Intn(n+params+1)
		x := api.Arc{From: a, To: b, Lat: r.Intn(4), Dist: r.Intn(3)}
		if a < b && r.Intn(2) == 0 && a < n && b < n {
			x.Dist = 0
		} else if x.Dist == 0 {
			x.Dist = 1
		}
		arcs = append(arcs, x)
	}
	return flow(params, needs, res, lats, arcs...)
}

// possible decides by all slots and units whether there is a legal schedule.
func possible(f Flow, ii int) bool {
	slots, units := make([]int, dataflow.Nodes(f)), make([]int, f.Insts)
	var try func(i int) bool
	try = func(i int) bool {
		if i == f.Insts {
			return solvable(f, ii, slots)
		}
		if f.Needs[i].Res < 0 {
			units[i] = -1
			slots[i] = -1
			return try(i + 1)
		}
		for slots[i] = 0; slots[i] < ii; slots[i]++ {
			for units[i] = 0; units[i] < f.Res[f.Needs[i].Res].Count; units[i]++ {
				if free(f, ii, slots, units, i) && try(i+1) {
					return true
				}
			}
		}
		return false
	}
	return try(0)
}

func free(f Flow, ii int, slots, units []int, i int) bool {
	if f.Needs[i].Busy > ii {
		return false
	}
	for j := range i {
		if f.Needs[j].Res != f.Needs[i].Res || units[j] != units[i] {
			continue
		}
		for a := range f.Needs[i].Busy {
			for b := range f.Needs[j].Busy {
				if (slots[i]+a)%ii == (slots[j]+b)%ii {
					return false
				}
			}
		}
	}
	return true
}

// solvable decides whether starts with the slots of the instructions that need resources satisfy all arcs.
func solvable(f Flow, ii int, slots []int) bool {
	n := dataflow.Nodes(f)
	// Times are rounded up to slots until they repeat or grow beyond all that is possible.
	time := make([]int, n)
	for range 2000 {
		changed := false
		for _, a := range f.Arcs {
			t := time[a.From] + a.Lat - ii*a.Dist
			if a.To < f.Insts && slots[a.To] >= 0 {
				for (t-slots[a.To])%ii != 0 {
					t++
				}
			}
			if t > time[a.To] {
				time[a.To] = t
				changed = true
			}
		}
		if time[dataflow.Source(f)] > 0 {
			return false
		}
		if !changed {
			return true
		}
	}
	return false
}

func TestRandom(t *testing.T) {
	r := rand.New(rand.NewSource(1))
	refuted, found := 0, 0
	for range 3000 {
		f := random(r, 4)
		ii := 1 + r.Intn(4)
		s, tree, done, e := Try(f, ii, api.SearchNodes)
		if e != api.OK || !done && Cost(f, ii) <= api.SearchNodes && short(f, ii) {
			t.Fatal(f, ii, done, e)
		}
		want := possible(f, ii)
		switch {
		case !done:
			if tree != nil || s.II != 0 {
				t.Fatal("not done")
			}
		case tree != nil:
			refuted++
			if s.II != 0 || want || !refute.Check(f, ii, tree) || len(tree) > Cost(f, ii) {
				t.Fatal(f, ii, tree, want)
			}
		default:
			found++
			if !want || s.II != ii || schedcheck.Check(f, s) != api.OK {
				t.Fatal(f, s, want)
			}
		}
		if _, tree, _, _ := Try(f, ii, 5); len(tree) > 5 {
			t.Fatal("too many nodes")
		}
	}
	if refuted < 300 || found < 300 {
		t.Error(refuted, found)
	}
}

func TestSchedule(t *testing.T) {
	r := rand.New(rand.NewSource(2))
	proved := 0
	for range 1500 {
		f := random(r, 8)
		least := 1 + r.Intn(3)
		most := least + r.Intn(30)
		res, e := Schedule(f, least, most)
		lower, le := bounds.Lower(f)
		if le != api.OK {
			if e != le {
				t.Fatal(e, le)
			}
			continue
		}
		lo := max(least, lower.II)
		if e != api.OK {
			if e != api.ErrInfeasible || res.Sched.II != 0 || lo <= most && fallback(f, most) {
				t.Fatal(f, e)
			}
			continue
		}
		s := res.Sched
		if schedcheck.Check(f, s) != api.OK || s.II < lo || s.II > most || res.Bound.II != lower.II || !bounds.Check(f, res.Bound) {
			t.Fatal(f, res)
		}
		last := lo - 1
		all := true
		for _, x := range res.Trees {
			if x.II <= last || x.II >= s.II || !refute.Check(f, x.II, x.Tree) {
				t.Fatal("trees")
			}
			last = x.II
		}
		for ii := lo; ii < s.II; ii++ {
			all = all && short(f, ii) && Cost(f, ii) <= api.SearchNodes
		}
		if res.Proved != (len(res.Trees) == s.II-lo) || all && !res.Proved {
			t.Fatal("proved")
		}
		if res.Proved {
			proved++
		}
	}
	if proved < 500 {
		t.Error(proved)
	}
}

// fallback decides the condition under which a schedule is found in any case.
func fallback(f Flow, most int) bool {
	var straight []api.Arc
	great := 0
	for _, a := range f.Arcs {
		great = max(great, a.Lat)
		if a.Dist == 0 {
			straight = append(straight, a)
		}
	}
	early, cycle := diffcons.Earliest(dataflow.Nodes(f), straight, 0)
	if cycle != nil || !short(f, most) {
		return false
	}
	for _, i := range listsched.Contested(f) {
		great += f.Needs[i].Busy
	}
	return most >= early[dataflow.End(f)]+great
}

func TestExample(t *testing.T) {
	two := []api.Need{{Busy: 2}, {Busy: 2}}
	one := []api.Resource{{Kind: 1, Count: 1}}
	f := flow(0, two, one, []int{2, 2})
	if Cost(f, 3) != 16 || Cost(f, 0) != 0 || Cost(f, 257) != 0 || Cost(Flow{}, 1) != 0 {
		t.Error(Cost(f, 3))
	}
	s, tree, done, e := Try(f, 3, 16)
	if e != api.OK || !done || len(tree) != 13 || s.II != 0 || !refute.Check(f, 3, tree) {
		t.Error(tree)
	}
	if _, tree, done, _ := Try(f, 3, 12); done || tree != nil {
		t.Error(tree)
	}
	if _, tree, done, _ := Try(f, 1, 1); !done || len(tree) != 1 || tree[0].Kind != api.RefLong {
		t.Error(tree)
	}
	r, e := Schedule(f, 1, 64)
	if e != api.OK || r.Sched.II != 4 || r.Bound.II != 4 || !r.Proved {
		t.Error(r, e)
	}
	f = flow(0, two, one, []int{2, 2}, api.Arc{From: 0, To: 1, Lat: 3}, api.Arc{From: 1, To: 0, Lat: 2, Dist: 1})
	if r, e := Schedule(f, 1, 64); e != api.OK || r.Sched.II != 5 {
		t.Error(r, e)
	}
	for _, c := range []struct {
		f           Flow
		least, most int
		e           api.Errno
	}{{Flow{}, 1, 4, api.ErrArg}, {Flow{Insts: -1}, 0, 0, api.ErrForm}, {f, 0, 4, api.ErrArg}, {f, 5, 4, api.ErrArg}, {f, 1, 257, api.ErrArg}, {f, 1, 4, api.ErrInfeasible}} {
		if c.f.Arcs == nil && c.f.Insts == 0 {
			c.f.Arcs = []api.Arc{{From: 0, To: 1}}
		}
		if r, e := Schedule(c.f, c.least, c.most); e != c.e || r.Sched.II != 0 || r.Bound.II != 0 {
			t.Error(c, e)
		}
	}
	if _, _, _, e := Try(f, 0, 5); e != api.ErrArg {
		t.Error(e)
	}
	if _, _, _, e := Try(Flow{Insts: 3}, 0, 5); e != api.ErrForm {
		t.Error(e)
	}
}

func TestSamples(t *testing.T) {
	for seed := range uint64(150) {
		f := lowered.Func(seed, sample.Shape{Loops: true, Streams: true, Arrays: true, Division: seed%3 == 0, Directives: true, Statements: 6})
		known := facts.Analyze(f)
		for b := range f.Blocks {
			if _, ok := dataflow.Pipelined(f, b); !ok {
				continue
			}
			d, _ := depend.Analyze(f, b, known)
			g, e := dataflow.Build(f, b, d, []api.Limit{{Class: api.ClassMul, Count: 1}})
			if e != api.OK {
				continue
			}
			r, e := Schedule(g, 1, 256)
			if e != api.OK || schedcheck.Check(g, r.Sched) != api.OK {
				t.Fatal(seed, e)
			}
		}
	}
}
