package library

import (
	"testing"

	"jacquard/api"
	"jacquard/sample/lowered"
)

func TestOf(t *testing.T) {
	for _, c := range []struct {
		op, w int
		want  api.Unit
	}{
		{api.OpAdd, 8, api.Unit{Width: 8, Delay: 160, Area: 96}}, {api.OpMul, 16, api.Unit{Class: api.ClassMul, Width: 16, Latency: 2, Busy: 1, Area: 1536}}, {api.OpUDiv, 8, api.Unit{Class: api.ClassUDiv, Width: 8, Latency: 3, Busy: 2, Area: 512}},
		{api.OpXor, 5, api.Unit{Width: 5, Delay: 20, Area: 5}}, {api.OpSub, 1, api.Unit{Width: 1, Delay: 50, Area: 4}}, {api.OpEq, 5, api.Unit{Width: 5, Delay: 90, Area: 10}}, {api.OpULe, 8, api.Unit{Width: 8, Delay: 200, Area: 128}}, {api.OpSLt, 7, api.Unit{Width: 7, Delay: 170, Area: 93}}, {api.OpSelect, 64, api.Unit{Width: 64, Delay: 50, Area: 193}},
		{api.OpShl, 64, api.Unit{Width: 64, Delay: 270, Area: 1280}}, {api.OpAShr, 2, api.Unit{Width: 2, Delay: 90, Area: 14}}, {api.OpTrunc, 3, api.Unit{Width: 3}}, {api.OpSRem, 64, api.Unit{Class: api.ClassSRem, Width: 64, Latency: 10, Busy: 5, Area: 32768}}, {api.OpMul, 1, api.Unit{Class: api.ClassMul, Width: 1, Latency: 2, Busy: 1, Area: 6}}, {api.OpMul, 17, api.Unit{Class: api.ClassMul, Width: 17, Latency: 3, Busy: 1, Area: 1734}},
	} {
		if u, e := Of(c.op, c.w); e != api.OK || u != c.want {
			t.Error(c, u, e)
		}
	}
	for _, op := range []int{0, -1, api.OpConst, api.OpLoad, api.OpStore, api.OpRecv, api.OpSend, 99} {
		if u, e := Of(op, 65); e != api.ErrArg || u != (api.Unit{}) {
			t.Error(op, e)
		}
	}
	for _, w := range []int{0, -1, 65} {
		if u, e := Of(api.OpAdd, w); e != api.ErrWidth || u != (api.Unit{}) {
			t.Error(w, e)
		}
	}
	for op := api.OpAdd; op <= api.OpTrunc; op++ {
		for w := 2; w <= 64; w++ {
			a, _ := Of(op, w-1)
			b, _ := Of(op, w)
			if b.Delay < a.Delay || b.Area < a.Area {
				t.Error("falls", op, w)
			}
		}
	}
}

func TestFunctions(t *testing.T) {
	f := lowered.Source("kernel k(x: u8, y: u8, a: u8[4], q: in u5, o: out u3) -> u1 { a[x] = a[y] + x; send o(recv(q) as u3); return x < y; }")
	n := 0
	for _, in := range f.Blocks[0].Insts {
		u := Inst(f, in)
		want := api.Unit{}
		switch in.Op {
		case api.OpLoad:
			want = api.Unit{Width: 8, Latency: 1, Busy: 1}
		case api.OpRecv:
			want = api.Unit{Width: 5, Latency: 1, Busy: 1}
		case api.OpStore:
			want.Width = 8
		case api.OpSend:
			want.Width = 3
		case api.OpConst:
			want.Width = 1
		case api.OpULt:
			want, _ = Of(api.OpULt, 8)
		default:
			continue
		}
		n++
		if u != want {
			t.Error(in, u)
		}
	}
	if n < 6 {
		t.Error(n)
	}
	if Size(f) != 1+2+len(f.Blocks[0].Insts) {
		t.Error(Size(f))
	}
	r := Reserve(Size(f))
	if Least(f) != max(r.Freeze, r.Begin+200+r.End) {
		t.Error(Least(f))
	}
	if Least(api.Func{}) != 330 || Size(api.Func{}) != 0 || Reserve(6) != (api.Reserve{Begin: 30, End: 360, Freeze: 440}) || Inst(f, api.Inst{Op: api.OpEq}) != (api.Unit{}) {
		t.Error("empty")
	}
}

func TestNumbers(t *testing.T) {
	for n, want := range map[int]int{-5: 0, 0: 0, 1: 0, 2: 1, 3: 2, 4: 2, 5: 3, 64: 6, 65: 7, 1 << 40: 40} {
		if Levels(n) != want {
			t.Error(n, Levels(n))
		}
	}
	l := []api.Limit{{Class: api.ClassMul, Count: 3}, {Class: api.ClassMul, Count: 5}, {Class: api.ClassUDiv}, {Class: api.ClassSDiv, Count: 5000}}
	for class, want := range map[int]int{api.ClassMul: 3, api.ClassUDiv: 1, api.ClassSDiv: 1024, api.ClassSRem: 1024} {
		if Count(l, class) != want {
			t.Error(class)
		}
	}
}
