package irexec

import (
	"fmt"
	"reflect"
	"slices"
	"testing"

	"jacquard/api"
	"jacquard/ir"
	"jacquard/irtext"
)

func function(t *testing.T, s string) api.Func {
	t.Helper()
	f, line, e := irtext.Parse(s)
	if e != api.OK {
		t.Fatal(line, e)
	}
	return f
}

const copier = `func c
widths 8 8 1 8 8 1 8 1 8 8 1 8
array a 8 4 whole
stream i in 8
stream o out 8
rets 8
block 0 ( 0 )
jump 1 ( 0 )
block 1 ( 1 )
2 = const 1
3 = recv i 2
store a 3 1 2
4 = load a 3 2
send o 4 2
6 = sub 1 3
5 = ult 3 6
branch 5 1 ( 6 ) 2 ( 4 )
block 2 ( 8 )
return 8
`

// alike compares outcomes; lists that are empty may be nil.
func alike(a, b api.Outcome) bool { return fmt.Sprint(a) == fmt.Sprint(b) }

func TestRun(t *testing.T) {
	f := function(t, "func f\nwidths 8 8 8\nrets 8\nblock 0 ( 0 1 )\n2 = add 0 1\nreturn 2\n")
	o, e := Run(f, api.Env{Scalars: []uint64{200, 100}}, 5)
	if e != api.OK || !alike(o, api.Outcome{Status: api.Done, Rets: []uint64{44}, Path: []int{0}}) {
		t.Error(o, e)
	}
	if o, e = Run(f, api.Env{Scalars: []uint64{200, 100}}, -1); e != api.OK || !alike(o, api.Outcome{Status: api.Fuel}) {
		t.Error(o, e)
	}
	c := function(t, copier)
	env := api.Env{Scalars: []uint64{20}, Arrays: [][]uint64{{9, 9, 9, 9}}, Ins: [][]uint64{{1, 2, 7, 3, 5}, nil}}
	o, _ = Run(c, env, 50)
	// 20 - 1 = 19, 19 - 2 = 17, 17 - 7 = 10, 10 - 3 = 7, 7 - 5 = 2: the last comparison is 5 < 2.
	want := api.Outcome{Status: api.Done, Rets: []uint64{0}, Arrays: [][]uint64{{9, 20, 19, 10}}, Outs: [][]uint64{nil, {20, 19, 0, 10, 0}}, Path: []int{0, 1, 1, 1, 1, 1, 2}}
	if !reflect.DeepEqual(o, want) || env.Arrays[0][1] != 9 || len(env.Ins[0]) != 5 {
		t.Error(o)
	}
	for n := range 6 {
		short := api.Env{Scalars: env.Scalars, Arrays: env.Arrays, Ins: [][]uint64{env.Ins[0][:n], nil}}
		visits, o, _ := Trace(c, short, 50)
		if (o.Status == api.Starved) != (n < 5) || len(o.Path) != len(visits) || !slices.Equal(o.Path, want.Path[:len(o.Path)]) || !slices.Equal(o.Outs[1], want.Outs[1][:len(o.Outs[1])]) {
			t.Error(n, o)
		}
		if last := visits[len(visits)-1]; n < 5 && (last.Block != 1 || !slices.Equal(last.Results, []uint64{1, 0, 0, 0, 0, 0, 0})) {
			t.Error(last)
		}
	}
	for fuel := range 10 {
		o, _ := Run(c, env, fuel)
		if (o.Status == api.Done) != (fuel >= 7) || len(o.Path) != min(fuel, 7) {
			t.Error(fuel, o)
		}
	}
}

func TestOperators(t *testing.T) {
	f := function(t, `func f
widths 8 1 8 8 16 16 4 8 1 8
array a 8 4 whole
stream i in 8
stream o out 8
rets 8 16 16 4 8
block 0 ( 0 1 2 )
3 = select 1 0 2
4 = zext 0
5 = sext 0
6 = trunc 0
7 = load a 2 1
store a 2 0 1
send o 0 1
9 = recv i 1
return 3 4 5 6 7
`)
	o, _ := Run(f, api.Env{Scalars: []uint64{0xF5, 1, 2}, Arrays: [][]uint64{{1, 2, 3, 4}}, Ins: [][]uint64{{1}, nil}}, 1)
	if !slices.Equal(o.Rets, []uint64{0xF5, 0xF5, 0xFFF5, 5, 3}) || o.Arrays[0][2] != 0xF5 || len(o.Outs[1]) != 1 {
		t.Error(o)
	}
	o, _ = Run(f, api.Env{Scalars: []uint64{0xF5, 0, 2}, Arrays: [][]uint64{{1, 2, 3, 4}}, Ins: [][]uint64{nil, nil}}, 1)
	if !slices.Equal(o.Rets, []uint64{2, 0xF5, 0xFFF5, 5, 0}) || o.Arrays[0][2] != 3 || len(o.Outs[1]) != 0 || o.Status != api.Done {
		t.Error(o)
	}
	o, _ = Run(f, api.Env{Scalars: []uint64{0xF5, 1, 4}, Arrays: [][]uint64{{1, 2, 3, 4}}, Ins: [][]uint64{{1}, nil}}, 1)
	if o.Rets[4] != 0 || !slices.Equal(o.Arrays[0], []uint64{1, 2, 3, 4}) {
		t.Error(o)
	}
}

func TestSteps(t *testing.T) {
	c := function(t, copier)
	env := api.Env{Scalars: []uint64{20}, Arrays: [][]uint64{{9, 9, 9, 9}}, Ins: [][]uint64{{1, 2, 7, 3, 5}, nil}}
	visits, o, _ := Trace(c, env, 50)
	s := Begin(c, env)
	params, b := env.Scalars, 0
	for i := 0; ; i++ {
		v, ok := Exec(c, b, params, &s)
		if !ok || !reflect.DeepEqual(v, visits[i]) && len(v.Results)+len(visits[i].Results) > 0 {
			t.Fatal(i, v, visits[i])
		}
		next := Next(c, v)
		if next < 0 {
			break
		}
		edge := c.Blocks[b].Term.To[next]
		params, b = Words(c, v, edge.Args), edge.Block
	}
	if !reflect.DeepEqual(s.Arrays, o.Arrays) || !slices.Equal(s.Outs[1], o.Outs[1]) {
		t.Error(s)
	}
	s = Begin(c, api.Env{Scalars: []uint64{20}, Arrays: env.Arrays, Ins: [][]uint64{nil, nil}})
	if _, ok := Exec(c, 1, []uint64{1}, &s); ok {
		t.Error("not starved")
	}
	Exec(c, 7, nil, &s)
	Exec(c, 1, nil, nil)
	Next(c, api.Visit{Block: 9})
	Words(c, api.Visit{}, []int{-1, 3})
}

func TestErrors(t *testing.T) {
	c := function(t, copier)
	a, i := [][]uint64{{0, 0, 0, 0}}, [][]uint64{{1}, nil}
	for n, env := range []api.Env{{}, {Scalars: []uint64{256}, Arrays: a, Ins: i}, {Scalars: []uint64{1}, Arrays: [][]uint64{{0}}, Ins: i}, {Scalars: []uint64{1}, Arrays: [][]uint64{{0, 0, 0, 256}}, Ins: i}, {Scalars: []uint64{1}, Arrays: a, Ins: [][]uint64{{256}, nil}}, {Scalars: []uint64{1}, Arrays: a, Ins: [][]uint64{{1}, {1}}}} {
		if o, e := Run(c, env, 9); e != api.ErrArg || !reflect.DeepEqual(o, api.Outcome{}) || Fits(c, env) != api.ErrArg {
			t.Error(n, e)
		}
		if v, _, e := Trace(c, env, 9); v != nil || e != api.ErrArg {
			t.Error(n, e)
		}
	}
	if Fits(api.Func{}, api.Env{}) != api.ErrForm || Fits(c, api.Env{Scalars: []uint64{255}, Arrays: a, Ins: i}) != api.OK {
		t.Error("Fits")
	}
	// Numbers of values play no role.
	env := api.Env{Scalars: []uint64{20}, Arrays: a, Ins: [][]uint64{{1, 2, 7, 3, 5}, nil}}
	x, _ := Run(c, env, 99)
	y, _ := Run(ir.Renumber(c), env, 99)
	if !reflect.DeepEqual(x, y) {
		t.Error("numbers matter")
	}
}
