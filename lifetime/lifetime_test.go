package lifetime

import (
	"slices"
	"testing"

	"jacquard/api"
	"jacquard/irtext"
)

func function(t *testing.T, s string) api.Func {
	t.Helper()
	f, line, e := irtext.Parse(s)
	if e != api.OK {
		t.Fatal(line, e)
	}
	return f
}

const pipelined = `func f
widths 8 8 8 8 1 1 8 8
array a 8 4 whole
stream i in 8
rets
block 0 ( 0 1 )
jump 1 ( 0 1 )
block 1 ( 2 3 ) pipeline 2
4 = const 1
6 = add 2 3
5 = ult 2 3
store a 2 6 4
7 = recv i 4
branch 5 1 ( 6 3 ) 2 ( )
block 2 ( )
return
`

func TestPipelined(t *testing.T) {
	f := function(t, pipelined)
	s := api.Sched{II: 2, Depth: 5, Start: []int{0, 0, 1, 4, 3}, Params: []int{0, 0}, Unit: []int{-1, -1, -1, 0, 0}}
	lives, e := Lives(f, 1, s)
	want := []api.Life{{Value: 2, From: 0, To: 4}, {Value: 3, From: 0, To: 1}, {Value: 6, From: 1, To: 4}}
	if e != api.OK || !slices.Equal(lives, want) {
		t.Fatal(lives, e)
	}
	if !Fixed(f, 1, s, 1) || Fixed(f, 1, s, 0) || !Fixed(f, 0, s, 0) || Fixed(f, 9, s, 0) || Fixed(f, 1, s, 2) {
		t.Error("Fixed")
	}
	if Length(lives[0], 2) != 3 || Length(lives[2], 2) != 2 || Length(lives[2], 0) != 1 {
		t.Error("Length")
	}
	if l := Spans(lives[2:], 2); !slices.Equal(l, []api.Span{{Start: 1, Len: 2}, {Start: 3, Len: 2}}) {
		t.Error(l)
	}
	if l := Spans(lives[2:], 0); !slices.Equal(l, []api.Span{{Start: 1, Len: 4}}) {
		t.Error(l)
	}
	if Pressure(lives, 2) != 6 || Pressure(lives, 0) != 3 || Pressure(nil, 2) != 0 {
		t.Error(Pressure(lives, 2), Pressure(lives, 0))
	}
	for _, c := range []struct{ value, cycle, kind, reg int }{
		{2, 0, api.SpotReg, 0}, {2, 2, api.SpotReg, 1}, {2, 4, api.SpotReg, 2}, {2, 5, api.SpotNone, 0}, {3, 0, api.SpotReg, 0}, {3, 99, api.SpotReg, 0}, {3, -1, api.SpotNone, 0}, {4, 0, api.SpotConst, 0}, {4, 77, api.SpotConst, 0}, {6, 0, api.SpotWire, 0}, {6, 1, api.SpotReg, 0}, {6, 3, api.SpotReg, 1}, {6, 5, api.SpotNone, 0},
		{5, 1, api.SpotWire, 0}, {5, 0, api.SpotNone, 0}, {5, 2, api.SpotNone, 0}, {7, 3, api.SpotNone, 0}, {7, 4, api.SpotNone, 0}, {0, 0, api.SpotNone, 0},
	} {
		if x := Where(f, 1, s, c.value, c.cycle); x != (api.Spot{Kind: c.kind, Reg: c.reg}) {
			t.Error(c, x)
		}
	}
	// The sum has to arrive before it is read: the condition in cycle 1, the argument of the self edge in cycle 1.
	for i, change := range []func(s *api.Sched){
		func(s *api.Sched) { s.Start[2] = 2 }, func(s *api.Sched) { s.Start[1] = 2 }, func(s *api.Sched) { s.Start[3] = 5 }, func(s *api.Sched) { s.Start[0] = -1 }, func(s *api.Sched) { s.Params[1] = 1 }, func(s *api.Sched) { s.Params[0] = 6 }, func(s *api.Sched) { s.Params[0] = -1 }, func(s *api.Sched) { s.II = 6 }, func(s *api.Sched) { s.II = -1 }, func(s *api.Sched) { s.Start = s.Start[1:] }, func(s *api.Sched) { s.Params = nil }, func(s *api.Sched) { s.Depth = 0 },
	} {
		x := api.Sched{II: 2, Depth: 5, Start: slices.Clone(s.Start), Params: slices.Clone(s.Params)}
		change(&x)
		if l, e := Lives(f, 1, x); e != api.ErrForm || l != nil || Where(f, 1, x, 4, 0).Kind != api.SpotNone {
			t.Error(i, l, e)
		}
	}
	if _, e := Lives(f, 9, s); e != api.ErrForm {
		t.Error(e)
	}
	if _, e := Lives(f, -1, s); e != api.ErrForm {
		t.Error(e)
	}
}

func TestStraight(t *testing.T) {
	f := function(t, `func f
widths 8 8 8 8 8 1 8
array a 8 4 whole
stream i in 8
rets 8 8
block 0 ( 0 1 )
5 = const 1
2 = mul 0 1
3 = load a 0 5
4 = recv i 5
6 = add 3 4
return 2 6
`)
	s := api.Sched{Depth: 5, Start: []int{0, 0, 1, 0, 2}, Params: []int{0, 0}}
	lives, e := Lives(f, 0, s)
	if e != api.OK || !slices.Equal(lives, []api.Life{{Value: 0, From: 0, To: 4}, {Value: 1, From: 0, To: 4}, {Value: 2, From: 3, To: 4}, {Value: 4, From: 1, To: 2}, {Value: 6, From: 3, To: 4}}) {
		t.Error(lives, e)
	}
	for _, c := range []struct{ value, cycle, kind int }{{2, 1, api.SpotNone}, {2, 2, api.SpotWire}, {2, 3, api.SpotReg}, {3, 1, api.SpotNone}, {3, 2, api.SpotWire}, {3, 3, api.SpotNone}, {4, 0, api.SpotNone}, {4, 1, api.SpotReg}, {4, 3, api.SpotNone}} {
		if x := Where(f, 0, s, c.value, c.cycle); x.Kind != c.kind {
			t.Error(c, x)
		}
	}
	s.Start[4] = 1
	if _, e := Lives(f, 0, s); e != api.ErrForm {
		t.Error("the load is read too early")
	}
}

func TestLivesWithoutBounds(t *testing.T) {
	far := []api.Life{{Value: 1, From: 3, To: 1<<63 - 1}, {Value: 2, From: 5, To: 2}, {Value: 3, From: 0, To: 4}}
	if l := Spans(far, 7); len(l) > maxSpans {
		t.Error(len(l))
	}
	if n := Pressure([]api.Life{{From: 0, To: 9}, {From: 3, To: 4}, {From: 6, To: 6}}, 4); n != 4 {
		t.Error(n)
	}
	if n := Pressure([]api.Life{{Value: 7, From: 8, To: 1 << 40}}, 11); n != (1<<40-8)/11+1 {
		t.Error(n)
	}
}
