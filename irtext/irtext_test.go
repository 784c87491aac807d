package irtext

import (
	"strings"
	"testing"

	"jacquard/api"
	"jacquard/ir"
)

const text = `func g
widths 8 1 8 1 8 8 1 8
array a 8 4 cyclic 2
array b 8 4 whole
array c 8 4 complete
array d 8 4 blocks 3
stream i in 8
stream o out 8
rets 8
block 0 ( 0 1 )
branch 1 1 ( 0 1 ) 2 ( 0 )
block 1 ( 2 3 ) pipeline 1 unroll 2 line 7
4 = load a 2 3
5 = recv i 3
store b 4 5 3
send o 5 3
6 = ult 4 5
branch 6 1 ( 4 6 ) 2 ( 5 )
block 2 ( 7 )
return 7
`

func TestRoundTrip(t *testing.T) {
	f, line, e := Parse(text)
	if e != api.OK || line != 0 || !ir.Valid(f) || f.Blocks[1].Unroll != 2 || f.Arrays[3].Kind != api.Blocks {
		t.Fatal(line, e)
	}
	if s, e := Print(f); e != api.OK || s != text {
		t.Error(s, e)
	}
	loose := strings.ReplaceAll(text, " ", " \t ")
	loose = "# comment\n\n \t\r\n" + strings.ReplaceAll(loose, "\n", "\r\n # x\n")
	loose = strings.TrimSuffix(strings.ReplaceAll(strings.ReplaceAll(loose, " \t ( \t ", "("), " \t ) \t ", ")"), "\n")
	g, line, e := Parse(loose)
	if e != api.OK || !ir.Same(f, g) {
		t.Error(line, e)
	}
	small := api.Func{Name: "f", Widths: []int{8, 8, 8}, Rets: []int{8}, Blocks: []api.Block{{Params: []int{0}, Insts: []api.Inst{{Op: api.OpConst, Dest: 1, Num: 5}, {Op: api.OpAdd, Dest: 2, Args: []int{0, 1}}}, Term: api.Term{Kind: api.Return, Cond: -1, Rets: []int{2}}}}}
	if s, _ := Print(small); s != "func f\nwidths 8 8 8\nrets 8\nblock 0 ( 0 )\n1 = const 5\n2 = add 0 1\nreturn 2\n" {
		t.Error(s)
	}
}

func TestErrors(t *testing.T) {
	lines := strings.Split(strings.TrimSuffix(text, "\n"), "\n")
	put := func(at int, line string) string {
		l := append([]string{}, lines...)
		l[at-1] = line
		return strings.Join(l, "\n")
	}
	for _, c := range []struct {
		s    string
		line int
		e    api.Errno
	}{
		{"", 1, api.ErrSyntax}, {"\n\n#\n", 3, api.ErrSyntax}, {strings.Repeat(" ", api.MaxText+1), 1, api.ErrLimit}, {strings.Join(lines[:9], "\n"), 9, api.ErrSyntax}, {strings.Join(lines[:17], "\n") + "\n", 17, api.ErrSyntax},
		{put(1, "func"), 1, api.ErrSyntax}, {put(1, "func ("), 1, api.ErrSyntax}, {put(1, "func g h"), 1, api.ErrSyntax}, {put(2, "widths x"), 2, api.ErrSyntax}, {put(2, "widths 08"), 2, api.ErrSyntax}, {put(2, "widths 2147483648"), 2, api.ErrSyntax}, {put(2, "rets"), 2, api.ErrSyntax},
		{put(3, "array a 8 4 odd"), 3, api.ErrSyntax}, {put(3, "array a 8 4 cyclic"), 3, api.ErrSyntax}, {put(3, "array a 8 4 whole 2"), 3, api.ErrSyntax}, {put(8, "array z 8 4 whole"), 8, api.ErrSyntax}, {put(7, "stream i on 8"), 7, api.ErrSyntax},
		{put(10, "block 1 ( 0 1 )"), 10, api.ErrSyntax}, {put(10, "block 0 ( 0 1 ) pipeline 0"), 10, api.ErrSyntax}, {put(10, "block 0 ( 0 1 ) unroll 1 pipeline 1"), 10, api.ErrSyntax}, {put(10, "block 0 ( 0 1"), 10, api.ErrSyntax}, {put(10, "block 0 0 1 )"), 10, api.ErrSyntax},
		{put(11, "branch 1 1 ( 0 1 )"), 11, api.ErrSyntax}, {put(11, "jump 1 ( 0 1 ) 2 ( )"), 11, api.ErrSyntax}, {put(13, "4 = load i 2 3"), 13, api.ErrSyntax}, {put(13, "4 = load z 2 3"), 13, api.ErrSyntax}, {put(13, "4 = load a 2"), 13, api.ErrSyntax}, {put(13, "load a 2 3"), 13, api.ErrSyntax}, {put(13, "4 = lad a 2 3"), 13, api.ErrSyntax}, {put(13, "4 load a 2 3"), 13, api.ErrSyntax},
		{put(13, "4 = const -1"), 13, api.ErrSyntax}, {put(13, "4 = const 18446744073709551616"), 13, api.ErrSyntax}, {put(13, "4 = const 18446744073709551615"), 0, api.ErrForm}, {put(15, "9 = store b 4 5 3"), 15, api.ErrSyntax}, {put(20, "return 7\nreturn 7"), 21, api.ErrSyntax}, {put(20, "return ( 7 )"), 20, api.ErrSyntax}, {put(12, "block 1 ( 2 3 )\vline 7"), 12, api.ErrSyntax},
		{put(1, "func 1"), 0, api.ErrForm}, {put(2, "widths 8"), 0, api.ErrForm}, {put(20, "return 99"), 0, api.ErrForm}, {put(17, "4 = ult 4 5"), 0, api.ErrForm},
	} {
		if f, line, e := Parse(c.s); line != c.line || e != c.e || !ir.Same(f, api.Func{}) {
			t.Errorf("%.400q: %d %d", c.s, line, e)
		}
	}
	if s, e := Print(api.Func{}); s != "" || e != api.ErrForm {
		t.Error(e)
	}
}

func TestInst(t *testing.T) {
	f, _, _ := Parse(text)
	for _, c := range []struct {
		in   api.Inst
		want string
	}{
		{api.Inst{Op: api.OpStore, Args: []int{1, 2, 3}, Dest: 4, Mem: 1}, "store b 1 2 3"}, {api.Inst{Op: api.OpAdd, Dest: -1, Args: []int{-5}}, "-1 = add -5"}, {api.Inst{Op: 77, Dest: 3, Args: []int{1}}, "3 = ? 1"}, {api.Inst{}, "0 = ?"}, {api.Inst{Op: api.OpConst, Num: ^uint64(0), Dest: 1}, "1 = const 18446744073709551615"}, {api.Inst{Op: api.OpRecv, Mem: 2, Dest: 1, Args: []int{0}}, "1 = recv ? 0"}, {api.Inst{Op: api.OpSend, Mem: 1, Args: []int{0, 1}}, "send o 0 1"}, {api.Inst{Op: api.OpLoad, Mem: -1, Dest: 2}, "2 = load ?"},
	} {
		if s := Inst(f, c.in); s != c.want {
			t.Error(s, c.want)
		}
	}
}

func TestPrintLimit(t *testing.T) {
	f := api.Func{Name: "f", Blocks: make([]api.Block, 60)}
	for v := range 60000 {
		f.Widths = append(f.Widths, 64)
		b := &f.Blocks[v/1000]
		b.Params = append(b.Params, v)
	}
	for i := range f.Blocks {
		f.Blocks[i].Term = api.Term{Kind: api.Return, Cond: -1}
	}
	f.Blocks[0].Params = nil
	for len(f.Blocks) < 1000 {
		f.Blocks = append(f.Blocks, api.Block{Term: api.Term{Kind: api.Jump, Cond: -1, To: []api.Edge{{Block: 1}}}})
	}
	f.Blocks[1].Params = nil
	args := f.Blocks[2].Params
	for i := range f.Blocks[2].Insts {
		_ = i
	}
	f.Blocks[2].Term = api.Term{Kind: api.Jump, Cond: -1, To: []api.Edge{{Block: 3, Args: args}}}
	if !ir.Valid(f) {
		t.Fatal("not valid")
	}
	if _, e := Print(f); e != api.OK {
		t.Error(e)
	}
	big := api.Func{Name: "f", Widths: make([]int, 65536), Blocks: make([]api.Block, 20)}
	for v := range big.Widths {
		big.Widths[v] = 1
	}
	for i := range big.Blocks {
		b := &big.Blocks[i]
		b.Term = api.Term{Kind: api.Return, Cond: -1}
		b.Params = []int{i}
		for j := range 3000 {
			if v := 20 + i*3000 + j; v < 65536 {
				b.Insts = append(b.Insts, api.Inst{Op: api.OpSelect, Dest: v, Args: []int{i, i, i}})
			}
		}
	}
	long := make([]int, 0)
	for i := range 200000 {
		long = append(long, 20+i%3000)
	}
	for i := range 5 {
		big.Blocks[0].Term = api.Term{Kind: api.Jump, Cond: -1, To: []api.Edge{{Block: 1, Args: long[:40000*i+1]}}}
	}
	if _, e := Print(big); e == api.OK {
		t.Error(e)
	}
}
