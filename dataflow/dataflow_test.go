package dataflow

import (
	"slices"
	"testing"

	"jacquard/api"
	"jacquard/depend"
	"jacquard/facts"
	"jacquard/irtext"
	"jacquard/sample"
	"jacquard/sample/lowered"
)

func arc(from, to, lat, dist int) Arc { return Arc{From: from, To: to, Lat: lat, Dist: dist} }

func function(t *testing.T, s string) api.Func {
	t.Helper()
	f, line, e := irtext.Parse(s)
	if e != api.OK {
		t.Fatal(line, e)
	}
	return f
}

func TestExample(t *testing.T) {
	// The block of the chapter: a constant, a sum, a load, a comparison.
	f := function(t, `func f
widths 8 8 8 1 8 1 8
array a 8 4 whole
rets
block 0 ( 0 )
jump 1 ( 0 )
block 1 ( 1 ) pipeline 1
3 = const 1
4 = add 1 1
6 = load a 1 3
5 = ult 4 1
branch 5 1 ( 4 ) 2 ( )
block 2 ( )
return
`)
	g, e := Build(f, 1, Deps{}, nil)
	if e != api.OK || !Valid(g) || g.Insts != 4 || g.Params != 1 || !g.Loop || Nodes(g) != 7 || Source(g) != 5 || End(g) != 6 {
		t.Fatal(g, e)
	}
	want := []Arc{arc(5, 0, 0, 0), arc(5, 1, 0, 0), arc(5, 2, 0, 0), arc(5, 3, 0, 0), arc(5, 4, 0, 0), arc(5, 6, 0, 0), arc(0, 6, 1, 0), arc(1, 6, 1, 0), arc(2, 6, 1, 0), arc(3, 6, 1, 0), arc(4, 6, 0, 0),
		arc(4, 1, 0, 0), arc(4, 1, 0, 0), arc(4, 2, 0, 0), arc(1, 3, 0, 0), arc(4, 3, 0, 0), arc(1, 4, 1, 1), arc(3, 5, 1, 1)}
	if !slices.Equal(g.Arcs, want) {
		t.Error(g.Arcs)
	}
	if !slices.Equal(g.Res, []Resource{{Kind: api.ResRead, Width: 8, Count: 1}}) || !slices.Equal(g.Needs, []Need{{Res: -1}, {Res: -1}, {Res: 0, Busy: 1}, {Res: -1}}) {
		t.Error(g.Res, g.Needs)
	}
	if i, ok := Pipelined(f, 1); i != 0 || !ok {
		t.Error(i)
	}
	for _, b := range []int{-1, 0, 2, 9} {
		if i, ok := Pipelined(f, b); i != 0 || ok {
			t.Error(b)
		}
	}
}

func TestStraight(t *testing.T) {
	f := function(t, `func f
widths 8 8 8 8 8 8 1 1 8 8 8
array a 8 4 whole
stream i in 8
stream o out 8
rets 8 8
block 0 ( 0 1 )
2 = mul 0 1
3 = udiv 2 1
4 = mul 2 3
5 = const 7
6 = ult 4 5
8 = recv i 6
store a 0 8 6
send o 8 6
7 = eq 8 5
branch 7 1 ( 1 4 ) 1 ( 8 5 )
block 1 ( 9 10 )
return 9 9
`)
	d := Deps{List: []api.Dep{{From: 5, To: 7, Lat: 0, Dist: 0}, {From: 5, To: 5, Lat: 1, Dist: 1}}}
	g, e := Build(f, 0, d, []api.Limit{{Class: api.ClassMul, Count: 2}})
	if e != api.OK || !Valid(g) || g.Loop {
		t.Fatal(e)
	}
	if !slices.Equal(g.Res, []Resource{{Kind: api.ResUnit, Index: api.ClassMul, Width: 8, Count: 2}, {Kind: api.ResUnit, Index: api.ClassUDiv, Width: 8, Count: 1024}, {Kind: api.ResStream, Index: 0, Width: 8, Count: 1}, {Kind: api.ResWrite, Width: 8, Count: 1}, {Kind: api.ResStream, Index: 1, Width: 8, Count: 1}}) {
		t.Error(g.Res)
	}
	end := g.Arcs[12:23]
	for i, lat := range []int{1, 2, 3, 1, 1, 2, 1, 1, 1, 0, 1} {
		if end[i].Lat != lat {
			t.Error("to the end", i, end[i])
		}
	}
	rest := g.Arcs[23:]
	want := []Arc{arc(9, 0, 0, 0), arc(10, 0, 0, 0), arc(0, 1, 2, 0), arc(10, 1, 0, 0), arc(0, 2, 2, 0), arc(1, 2, 3, 0), arc(2, 4, 2, 0), arc(4, 5, 1, 0), arc(9, 6, 0, 0), arc(5, 6, 1, 0), arc(4, 6, 0, 0), arc(5, 7, 1, 0), arc(4, 7, 1, 0), arc(5, 8, 1, 0), arc(9, 11, 0, 0), arc(10, 11, 0, 0), arc(5, 7, 0, 0)}
	if !slices.Equal(rest, want) {
		t.Error(rest)
	}
}

func TestErrors(t *testing.T) {
	f := function(t, "func f\nwidths 8 8\nrets\nblock 0 ( 0 )\n1 = add 0 0\nreturn\n")
	for _, d := range []api.Dep{{From: -1}, {To: 1}, {Lat: -1}, {Lat: 4097}, {Dist: -1}, {Dist: 257}} {
		if g, e := Build(f, 0, Deps{List: []api.Dep{d}}, nil); e != api.ErrForm || len(g.Arcs) > 0 {
			t.Error(d, e)
		}
	}
	if _, e := Build(f, 1, Deps{List: []api.Dep{{From: -1}}}, nil); e != api.ErrRange {
		t.Error(e)
	}
	if _, e := Build(api.Func{}, 0, Deps{}, nil); e != api.ErrForm {
		t.Error(e)
	}
	g, _ := Build(f, 0, Deps{}, nil)
	if h, e := Add(g, []Arc{arc(0, 0, 2, 0)}); e != api.OK || len(h.Arcs) != len(g.Arcs)+1 {
		t.Error(e)
	}
	for _, a := range []Arc{arc(3, 0, 0, 0), arc(0, 4, 0, 0), arc(-1, 0, 0, 0), arc(0, 0, -1, 0), arc(0, 0, 0, 1), arc(0, 0, 4097, 0)} {
		if h, e := Add(g, []Arc{a}); e != api.ErrForm || h.Insts != 0 {
			t.Error(a, e)
		}
	}
	changes := []func(x *Flow){func(x *Flow) { x.Insts = -1 }, func(x *Flow) { x.Params = 4095 }, func(x *Flow) { x.Needs = nil }, func(x *Flow) { x.Arcs = x.Arcs[:3] }, func(x *Flow) { x.Arcs[0].Lat = 1 }, func(x *Flow) { x.Arcs[3].Lat = 0 }, func(x *Flow) { x.Needs[0].Busy = 1 }, func(x *Flow) { x.Needs[0].Res = 0 }, func(x *Flow) { x.Res = []Resource{{Kind: 5, Count: 1}} }, func(x *Flow) { x.Res = []Resource{{Kind: 1}} }}
	for i, change := range changes {
		h, _ := Add(g, nil)
		change(&h)
		if Valid(h) {
			t.Error("change", i)
		}
		if _, e := Add(h, nil); e != api.ErrForm {
			t.Error("change", i)
		}
	}
}

func TestSamples(t *testing.T) {
	for seed := range uint64(150) {
		f := lowered.Func(seed, sample.Shape{Loops: true, Streams: true, Arrays: true, Division: true, Directives: true, Statements: 6})
		known := facts.Analyze(f)
		for b := range f.Blocks {
			d, _ := depend.Analyze(f, b, known)
			if slices.ContainsFunc(d.List, func(x api.Dep) bool { return x.Dist > api.MaxII }) {
				continue
			}
			g, e := Build(f, b, d, nil)
			_, loop := Pipelined(f, b)
			if e != api.OK || !Valid(g) || g.Loop != loop || g.Insts != len(f.Blocks[b].Insts) {
				t.Fatal(e)
			}
		}
	}
}
