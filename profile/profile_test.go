package profile

import (
	"reflect"
	"slices"
	"testing"

	"jacquard/api"
	"jacquard/compile"
	"jacquard/sample"
)

// example is the function of the example of chapter 36.
func example() (api.Func, []api.Sched, []int) {
	f := api.Func{Name: "f", Widths: []int{1}, Blocks: []api.Block{
		{Params: []int{0}, Term: api.Term{Kind: api.Jump, Cond: -1, To: []api.Edge{{Block: 1}}}},
		{Term: api.Term{Kind: api.Branch, To: []api.Edge{{Block: 1}, {Block: 2}}}},
		{Term: api.Term{Kind: api.Return, Cond: -1}}}}
	return f, []api.Sched{{Depth: 2}, {II: 3, Depth: 7}, {Depth: 1}}, []int{0, 1, 1, 1, 2}
}

func TestExample(t *testing.T) {
	f, s, path := example()
	if l, e := Blocks(f, s, path); e != api.OK || !slices.Equal(l, []Share{{0, 1, 2}, {1, 3, 13}, {2, 1, 1}}) {
		t.Error(l, e)
	}
	if l, e := Flight(f, s, path, 9); e != api.OK || !slices.Equal(l, []Spot{{1, 6}, {2, 3}, {3, 0}}) {
		t.Error(l, e)
	}
	for _, c := range []int{-1, 0, 17, 99} {
		if l, e := Flight(f, s, path, c); e != api.OK || len(l) != 0 {
			t.Error(c, l, e)
		}
	}
	if l, e := Blocks(f, s, []int{1}); e != api.ErrForm || l != nil {
		t.Error(e)
	}
	if l, e := Flight(f, s, []int{0, 2}, 1); e != api.ErrForm || l != nil {
		t.Error(e)
	}
}

func TestFlows(t *testing.T) {
	f := api.Flow{Insts: 2, Loop: true, Res: []api.Resource{{Kind: 1, Count: 1}, {Kind: 1, Count: 3}}, Needs: []api.Need{{Busy: 1}, {Busy: 2}},
		Arcs: []api.Arc{{From: 2, To: 0}, {From: 2, To: 1}, {From: 2, To: 3}, {From: 0, To: 3, Lat: 1}, {From: 1, To: 3, Lat: 2}, {From: 0, To: 1, Lat: 2}, {From: 1, To: 0, Lat: 1, Dist: 1}, {From: 1, To: 2, Lat: 3, Dist: 1}}}
	for _, c := range []struct {
		b    api.Bound
		want []int
	}{
		{api.Bound{Kind: api.BoundCycle, II: 3, Cycle: []int{6, 5}}, []int{0, 1}}, {api.Bound{Kind: api.BoundCycle, II: 3, Cycle: []int{7, 1}}, []int{1}}, {api.Bound{Kind: api.BoundCount, II: 3}, []int{0, 1}}, {api.Bound{Kind: api.BoundBusy, II: 2}, []int{1}}, {api.Bound{Kind: api.BoundOne, II: 1}, nil}, {api.Bound{Kind: api.BoundCycle, II: 4, Cycle: []int{6, 5}}, nil}, {api.Bound{}, nil},
	} {
		if l := Critical(f, c.b); !slices.Equal(l, c.want) {
			t.Error(c, l)
		}
	}
	s := api.Sched{II: 3, Depth: 4, Start: []int{0, 2}, Unit: []int{0, 0}}
	if l := Usage(f, s); !slices.Equal(l, []Use{{3, 3}, {0, 9}}) {
		t.Error(l)
	}
	if Usage(f, api.Sched{}) != nil {
		t.Error("Usage")
	}
}

func TestRuns(t *testing.T) {
	done := 0
	for seed := range uint64(60) {
		s := sample.Source(seed, sample.Shape{Loops: true, Streams: true, Arrays: true, Directives: true, Statements: 3})
		d, _, e := compile.Compile(s, api.Options{Period: 1500, Passes: api.PassAll, MaxII: 64})
		if e != api.OK {
			continue
		}
		env := sample.FuncEnv(seed, d.First)
		pattern := api.Pattern{Open: [][]bool{{false, true, true}, {true, false, true}, {true, true, false, false, true, true}}}
		p, e := Run(d, env, pattern, 5000)
		if e == api.ErrState || e == api.ErrFuel {
			continue
		}
		if e != api.OK {
			t.Fatal(e)
		}
		done++
		sum := 1
		for _, b := range p.Blocks {
			sum += b.Cycles
		}
		first := 0
		for i, x := range p.Stalls {
			first += x.First
			if x.All == 0 || x.First > x.All || i > 0 && p.Stalls[i-1].Stream >= x.Stream {
				t.Fatal(p.Stalls)
			}
		}
		if sum != p.Cycles-p.Frozen || first != p.Frozen {
			t.Fatal(seed, p, sum, first)
		}
		for b, flow := range d.Flows {
			for _, u := range Usage(flow, d.Scheds[b]) {
				if u.Busy > u.Slots {
					t.Fatal("usage")
				}
			}
		}
		if n, _ := compile.Cycles(d, env, 9000); n != p.Cycles-p.Frozen {
			t.Fatal("cycles")
		}
	}
	if done < 20 {
		t.Error(done)
	}
}

func TestErrors(t *testing.T) {
	d, _, e := compile.Compile("kernel k(q: in u8, o: out u8) { send o(recv(q)); }", api.Options{Period: 1500, Passes: api.PassAll, MaxII: 64})
	if e != api.OK {
		t.Fatal(e)
	}
	env := api.Env{Ins: [][]uint64{{1}, nil}}
	p, e := Run(d, env, api.Pattern{Open: [][]bool{nil, {false, false, false, false, false, false, true}}}, 99)
	if e != api.OK || p.Frozen == 0 || len(p.Stalls) != 1 || p.Stalls[0].Stream != 1 || p.Stalls[0].First != p.Frozen {
		t.Error(p, e)
	}
	for i, c := range []struct {
		env    api.Env
		cycles int
		e      api.Errno
	}{{api.Env{}, 9, api.ErrArg}, {env, 1, api.ErrFuel}, {api.Env{Ins: [][]uint64{nil, nil}}, 99, api.ErrState}} {
		if p, e := Run(d, c.env, api.Pattern{}, c.cycles); e != c.e || !reflect.DeepEqual(p, Profile{}) {
			t.Error(i, e)
		}
	}
}
