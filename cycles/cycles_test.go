package cycles

import (
	"slices"
	"testing"

	"jacquard/api"
)

// example is the function of the chapter's example.
func example() (api.Func, []api.Sched) {
	f := api.Func{Name: "f", Widths: []int{1}, Blocks: []api.Block{
		{Params: []int{0}, Term: api.Term{Kind: api.Jump, Cond: -1, To: []api.Edge{{Block: 1}}}},
		{Term: api.Term{Kind: api.Branch, To: []api.Edge{{Block: 1}, {Block: 2}}}},
		{Term: api.Term{Kind: api.Return, Cond: -1}}}}
	return f, []api.Sched{{Depth: 2}, {II: 3, Depth: 7}, {Depth: 1}}
}

func TestExample(t *testing.T) {
	f, s := example()
	path := []int{0, 1, 1, 1, 2}
	if l, e := Split(f, s, path); e != api.OK || !slices.Equal(l, []Stretch{{0, 1}, {1, 3}, {2, 1}}) {
		t.Error(l, e)
	}
	if n, e := Count(f, s, path); n != 17 || e != api.OK {
		t.Error(n, e)
	}
	if l, e := Issues(f, s, path); e != api.OK || !slices.Equal(l, []int{1, 3, 6, 9, 16}) {
		t.Error(l, e)
	}
	if Stages(s[1]) != 3 || Stages(s[0]) != 1 || Stages(api.Sched{II: 3, Depth: 6}) != 2 || Self(f, s, 1) != 0 || Self(f, s, 0) != -1 || Self(f, s, -1) != -1 || Self(f, s, 3) != -1 || Self(f, nil, 1) != -1 {
		t.Error("Stages, Self")
	}
	if Visit(s[1], 0) != 0 || Visit(s[1], -1) != 0 || Visit(s[1], 4) != 16 || Visit(s[0], 3) != 6 {
		t.Error("Visit")
	}
	// An interval of a block that is no self loop plays no role.
	s[0].II, s[1].II = 1, 0
	if n, e := Count(f, s, path); n != 1+2+21+1 || e != api.OK {
		t.Error(n, e)
	}
	if l, _ := Split(f, s, path); len(l) != 5 {
		t.Error(l)
	}
	f.Blocks[1].Term.To[1].Block = 1
	s[1].II = 3
	if Self(f, s, 1) != -1 {
		t.Error("two edges")
	}
}

func TestErrors(t *testing.T) {
	f, s := example()
	for _, p := range [][]int{nil, {1}, {0, 2}, {0, 1, 0}, {0, 9}, {0, -1}} {
		l, e := Split(f, s, p)
		_, e2 := Count(f, s, p)
		i, e3 := Issues(f, s, p)
		if l != nil || i != nil || e != api.ErrForm || e2 != api.ErrForm || e3 != api.ErrForm {
			t.Error(p)
		}
	}
	if _, e := Split(f, s[:2], []int{0}); e != api.ErrForm {
		t.Error(e)
	}
	if n, e := Count(f, s, []int{0, 1}); n != 0 || e != api.ErrForm {
		t.Error(n, e)
	}
	if l, e := Issues(f, s, []int{0, 1}); e != api.OK || !slices.Equal(l, []int{1, 3}) {
		t.Error(l, e)
	}
}
