package lexer

import (
	"math/rand"
	"strings"
	"testing"

	"jacquard/api"
)

func TestTokens(t *testing.T) {
	l, n, e := Lex("a<<=0x1F // c")
	if e != api.OK || n != 13 || len(l) != 4 {
		t.Fatal(l, n, e)
	}
	want := []api.Token{
		{Kind: api.TokenName, Text: "a", At: 0, Line: 1},
		{Kind: api.TokenPunct, Text: "<<", At: 1, Line: 1},
		{Kind: api.TokenPunct, Text: "=", At: 3, Line: 1},
		{Kind: api.TokenNumber, Text: "0x1F", Num: 31, At: 4, Line: 1},
	}
	for i, x := range want {
		if l[i] != x {
			t.Error(i, l[i])
		}
	}
	l, _, e = Lex("\n//x\n\t0b101 007 while _a1 u64\r\n->..>>==!=<=>=&&||(){}[],;:=+-*/%&|^~!<>?#")
	if e != api.OK || len(l) != 5+9+24 {
		t.Fatal(len(l), e)
	}
	if l[0].Num != 5 || l[0].Line != 3 || l[1].Num != 7 || l[2].Kind != api.TokenKeyword || l[3].Kind != api.TokenName || l[4].Kind != api.TokenKeyword || l[5].Line != 4 {
		t.Error(l[:6])
	}
}

func TestErrors(t *testing.T) {
	name := strings.Repeat("n", 64)
	for _, c := range []struct {
		s  string
		at int
		e  api.Errno
	}{
		{"x.y", 1, api.ErrSyntax}, {"12u", 0, api.ErrSyntax}, {" 0x", 1, api.ErrSyntax}, {"0b", 0, api.ErrSyntax}, {"0b12", 0, api.ErrSyntax}, {"0xG", 0, api.ErrSyntax}, {"1_", 0, api.ErrSyntax}, {"0X1", 0, api.ErrSyntax},
		{"a $ 99999999999999999999", 2, api.ErrSyntax}, {"18446744073709551616", 0, api.ErrLimit}, {"18446744073709551616x", 0, api.ErrSyntax}, {"0x10000000000000000", 0, api.ErrLimit},
		{"a " + name + "n", 2, api.ErrLimit}, {"\x00", 0, api.ErrSyntax}, {"\"", 0, api.ErrSyntax}, {"é", 0, api.ErrSyntax}, {"@", 0, api.ErrSyntax},
		{strings.Repeat(" ", api.MaxSource+1), api.MaxSource, api.ErrLimit}, {"$" + strings.Repeat(" ", api.MaxSource), api.MaxSource, api.ErrLimit},
	} {
		if l, at, e := Lex(c.s); l != nil || at != c.at || e != c.e {
			t.Errorf("%.20q: %v %d %d", c.s, l, at, e)
		}
	}
	for _, s := range []string{"", name, "18446744073709551615", "0xFFFFFFFFFFFFFFFF", "0x00000000000000000000001", strings.Repeat(" ", api.MaxSource), "//", "/ /", "a//b"} {
		if _, n, e := Lex(s); e != api.OK || n != len(s) {
			t.Errorf("%.20q: %d %d", s, n, e)
		}
	}
}

func TestTypes(t *testing.T) {
	for w := 1; w <= 64; w++ {
		for _, signed := range []bool{false, true} {
			x := api.Type{Width: w, Signed: signed}
			if y, ok := Type(TypeName(x)); !ok || y != x || !IsKeyword(TypeName(x)) {
				t.Error(x)
			}
		}
	}
	for _, s := range []string{"u0", "u65", "u08", "u", "s", "", "u-1", "ux", "u640", "Bool", "u1 "} {
		if x, ok := Type(s); ok || x != (api.Type{}) || IsKeyword(s) {
			t.Error(s)
		}
	}
	if x, ok := Type("bool"); !ok || x != (api.Type{Width: 1}) {
		t.Error("bool")
	}
	if TypeName(api.Type{}) != "" || TypeName(api.Type{Width: 65}) != "" || TypeName(api.Type{Width: -1, Signed: true}) != "" {
		t.Error("TypeName")
	}
	for _, s := range strings.Fields("as blocks bool complete cyclic else false fn for if in kernel let out recv return send true var while") {
		if !IsKeyword(s) {
			t.Error(s)
		}
	}
	if IsKeyword("pipeline") || IsKeyword("unroll") || IsKeyword("") {
		t.Error("keywords")
	}
}

func TestJoin(t *testing.T) {
	r := rand.New(rand.NewSource(1))
	parts := []string{"a", " ", "\n", "1", "<", "=", ".", "//x\n", "0x", "f", "&", "-", ">", "u8", "for", "\t", "?"}
	for range 20000 {
		var b strings.Builder
		for range r.Intn(8) {
			b.WriteString(parts[r.Intn(len(parts))])
		}
		s := b.String()
		l, _, e := Lex(s)
		if e != api.OK {
			continue
		}
		at := 0
		for _, x := range l {
			gap := s[at:x.At]
			if again, _, e := Lex(gap); e != api.OK || len(again) != 0 || s[x.At:x.At+len(x.Text)] != x.Text || x.Line != 1+strings.Count(s[:x.At], "\n") {
				t.Fatal(s, x)
			}
			at = x.At + len(x.Text)
		}
		m, _, e := Lex(Join(l))
		if e != api.OK || len(m) != len(l) {
			t.Fatal(s)
		}
		for i := range m {
			if m[i].Kind != l[i].Kind || m[i].Text != l[i].Text || m[i].Num != l[i].Num {
				t.Fatal(s, i)
			}
		}
	}
}
