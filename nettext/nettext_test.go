package nettext

import (
	"strings"
	"testing"

	"jacquard/api"
	"jacquard/netlist"
)

const text = `netlist x
input 8
memory m 8 4
memory  3 1
stream i 8 in w0 -
stream o 8 out w0 w4
const w0 1 1
in w1 8 0
data w2 8 0
open w3 1 1
op add w4 8 w1 w2
mux w5 8 w3 w4 w0 w1
reg w6 8 9 w0 w5
unit mul w7 8 2 w6 w1
read 0 w8 8 w0 w7
write 0 w0 w8 w1
freeze w0
done w3
ret w6
end
`

func TestRoundTrip(t *testing.T) {
	n, line, e := Parse(text)
	if e != api.OK || line != 0 || netlist.Check(n) != api.OK || len(n.Mems) != 2 || n.Data[0] != -1 || n.Cells[7].Num != 2 {
		t.Fatal(line, e)
	}
	if s, e := Format(n); e != api.OK || s != text {
		t.Error(s)
	}
	small := "netlist\nconst w0 8 5\nconst w1 1 0\nfreeze w1\ndone w1\nret w0\nend\n"
	n, _, e = Parse(small)
	if s, _ := Format(n); e != api.OK || s != small {
		t.Error(s, e)
	}
	// Widths that do not fit are no matter of the text.
	n, _, e = Parse(strings.Replace(text, "op add w4 8 w1 w2", "op add w4 8 w0 w2", 1))
	if s, e2 := Format(n); e != api.OK || e2 != api.OK || !strings.Contains(s, "w0 w2") || netlist.Check(n) != api.ErrWidth {
		t.Error(e, e2)
	}
}

func TestErrors(t *testing.T) {
	lines := strings.Split(strings.TrimSuffix(text, "\n"), "\n")
	put := func(at int, line string) string {
		l := append([]string{}, lines...)
		l[at-1] = line
		return strings.Join(l, "\n") + "\n"
	}
	for _, c := range []struct {
		s    string
		line int
		e    api.Errno
	}{
		{"", 1, api.ErrSyntax}, {strings.Repeat(" ", api.MaxText+1), 0, api.ErrLimit}, {strings.Join(lines[:10], "\n") + "\n", 11, api.ErrSyntax}, {strings.TrimSuffix(text, "\n"), 20, api.ErrSyntax}, {text + "\n", 21, api.ErrSyntax}, {text + "end\n", 21, api.ErrSyntax},
		{put(1, "netlist "), 1, api.ErrSyntax}, {put(1, "netlist a b"), 1, api.ErrSyntax}, {put(1, "netlist a-b"), 1, api.ErrSyntax}, {put(1, "net"), 1, api.ErrSyntax}, {put(2, "input 08"), 2, api.ErrSyntax}, {put(2, "input 2147483648"), 2, api.ErrSyntax}, {put(2, "input  8"), 2, api.ErrSyntax}, {put(2, ""), 2, api.ErrSyntax}, {put(4, "input 3"), 4, api.ErrSyntax}, {put(5, "stream i 8 in w0 w1"), 5, api.ErrSyntax}, {put(6, "stream i 8 out w0 -"), 6, api.ErrSyntax}, {put(5, "stream i 8 on w0 -"), 5, api.ErrSyntax}, {put(7, "memory m 8 4"), 7, api.ErrSyntax},
		{put(7, "const w0 1"), 7, api.ErrSyntax}, {put(7, "const w0 1 1 w0"), 7, api.ErrSyntax}, {put(7, "const 0 1 1"), 7, api.ErrSyntax}, {put(7, "const w00 1 1"), 7, api.ErrSyntax}, {put(7, "const w0 1 18446744073709551616"), 7, api.ErrSyntax}, {put(11, "op mul w4 8 w1 w2"), 11, api.ErrSyntax}, {put(11, "op const w4 8 w1 w2"), 11, api.ErrSyntax}, {put(14, "unit add w7 8 2 w6 w1"), 14, api.ErrSyntax}, {put(11, "frob w4 8"), 11, api.ErrSyntax}, {put(16, "write 0 w-1"), 16, api.ErrSyntax}, {put(17, "done w0"), 17, api.ErrSyntax}, {put(18, "freeze w0"), 18, api.ErrSyntax}, {put(19, "op add w4 8 w1 w2"), 19, api.ErrSyntax}, {put(20, "end "), 20, api.ErrSyntax},
		{put(7, "const w1 1 1"), 0, api.ErrForm}, {put(7, "const w9 1 1"), 0, api.ErrForm}, {put(7, "const w0 0 1"), 0, api.ErrForm}, {put(7, "const w0 65 1"), 0, api.ErrForm}, {put(11, "op add w4 8 w1"), 0, api.ErrForm}, {put(19, "ret w99"), 0, api.ErrForm}, {put(9, "data w2 8 1"), 0, api.ErrForm},
	} {
		if n, line, e := Parse(c.s); line != c.line || e != c.e || !netlist.Same(n, api.Netlist{}) {
			t.Errorf("%.300q: %d %d", c.s, line, e)
		}
	}
	if s, e := Format(api.Netlist{}); s != "" || e != api.ErrForm {
		t.Error(e)
	}
}
