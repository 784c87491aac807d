package nettext

import (
	"math"
	"slices"
	"strconv"
	"strings"

	"jacquard/api"
	"jacquard/bits"
	"jacquard/netlist"
)

// Places in a text: what the next line may be.
const (
	atName = iota
	atInputs
	atMems
	atStreams
	atCells
	atDone
	atRets
	atEnd
)

// reader reads a text line by line; words are those of the line that remain, bad says that the line has no form that is permitted.
type reader struct {
	n      api.Netlist
	widths []int
	place  int
	words  []string
	bad    bool
}

// Parse returns the netlist with a text, and the number of the line of the first error: ErrSyntax, ErrForm, ErrLimit.
func Parse(s string) (api.Netlist, int, api.Errno) {
	if len(s) > api.MaxText {
		return api.Netlist{}, 0, api.ErrLimit
	}
	r := &reader{}
	number := 1
	for ; s != ""; number++ {
		line, rest, ended := strings.Cut(s, "\n")
		s = rest
		r.words = strings.Split(line, " ")
		r.line()
		if r.bad || !ended || len(r.words) > 0 {
			return api.Netlist{}, number, api.ErrSyntax
		}
	}
	if r.place != atEnd {
		return api.Netlist{}, number, api.ErrSyntax
	}
	if !r.wires() || netlist.Check(r.n) == api.ErrForm {
		return api.Netlist{}, 0, api.ErrForm
	}
	return r.n, 0, api.OK
}

// wires gives each wire the width of its cell; false if there is a wire without one, or with two.
func (r *reader) wires() bool {
	r.n.Widths = make([]int, len(r.widths))
	k := 0
	for _, c := range r.n.Cells {
		if c.Kind == api.CellWrite {
			continue
		}
		if c.Out >= len(r.n.Widths) || r.widths[k] == 0 || r.n.Widths[c.Out] != 0 {
			return false
		}
		r.n.Widths[c.Out] = r.widths[k]
		k++
	}
	return true
}

// next takes the next word, "" at the end of the line.
func (r *reader) next() string {
	if len(r.words) == 0 {
		r.bad = true
		return ""
	}
	w := r.words[0]
	r.words = r.words[1:]
	return w
}

// sees reports whether the next word is a certain one, and takes it then.
func (r *reader) sees(word string) bool {
	if len(r.words) > 0 && r.words[0] == word {
		r.words = r.words[1:]
		return true
	}
	return false
}

// isDecimal reports whether a word is a number without leading zeros.
func isDecimal(w string) bool {
	for i := range len(w) {
		if w[i] < '0' || w[i] > '9' {
			return false
		}
	}
	return w != "" && (w[0] != '0' || w == "0")
}

// wide reads a number of 64 bits.
func (r *reader) wide(w string) uint64 {
	n, err := strconv.ParseUint(w, 10, 64)
	if !isDecimal(w) || err != nil {
		r.bad = true
	}
	return n
}

func (r *reader) number() int { return r.small(r.next()) }

func (r *reader) small(w string) int {
	n := r.wide(w)
	if n > math.MaxInt32 {
		r.bad = true
		return 0
	}
	return int(n)
}

func (r *reader) wire() int {
	w, ok := strings.CutPrefix(r.next(), "w")
	if !ok {
		r.bad = true
	}
	return r.small(w)
}

func (r *reader) name() string {
	w := r.next()
	other := func(c rune) bool {
		return (c < 'a' || c > 'z') && (c < 'A' || c > 'Z') && (c < '0' || c > '9') && c != '_'
	}
	if len(w) > api.MaxName || strings.ContainsFunc(w, other) {
		r.bad = true
	}
	return w
}

// line reads a line: each form is permitted from one place on, up to another one.
func (r *reader) line() {
	enter := func(place int) { r.place = max(r.place, place) }
	upTo := func(place int, word string) bool {
		return r.place >= atInputs && r.place <= place && r.sees(word)
	}
	switch {
	case r.place == atName:
		r.head()
	case upTo(atInputs, "input"):
		r.n.Ins = append(r.n.Ins, r.number())
	case upTo(atMems, "memory"):
		enter(atMems)
		r.n.Mems = append(r.n.Mems, api.Array{Name: r.name(), Width: r.number(), Len: r.number()})
	case upTo(atStreams, "stream"):
		enter(atStreams)
		r.stream()
	case upTo(atCells, "freeze"):
		r.n.Freeze = r.wire()
		r.place = atDone
	case r.place == atDone && r.sees("done"):
		r.n.Done = r.wire()
		r.place = atRets
	case r.place == atRets && r.sees("ret"):
		r.n.Rets = append(r.n.Rets, r.wire())
	case r.place == atRets && r.sees("end"):
		r.place = atEnd
	case r.place <= atCells:
		r.place = atCells
		r.cell()
	default:
		r.bad = true
	}
}

func (r *reader) head() {
	if !r.sees("netlist") {
		r.bad = true
	}
	if len(r.words) > 0 {
		// An empty name leaves no blank.
		r.n.Name = r.name()
		r.bad = r.bad || r.n.Name == ""
	}
	r.place = atInputs
}

func (r *reader) stream() {
	s := api.Stream{Name: r.name(), Width: r.number()}
	s.Out = !r.sees("in")
	if s.Out && !r.sees("out") {
		r.bad = true
	}
	active, data := r.wire(), -1
	if s.Out {
		data = r.wire()
	} else if !r.sees("-") {
		r.bad = true
	}
	r.n.Streams = append(r.n.Streams, s)
	r.n.Active = append(r.n.Active, active)
	r.n.Data = append(r.n.Data, data)
}

func (r *reader) cell() {
	w := r.next()
	c := api.Cell{Kind: slices.Index(words[:], w), Out: -1}
	if c.Kind <= 0 {
		r.bad = true
		return
	}
	args := false
	switch c.Kind {
	case api.CellOp:
		c.Op, args = r.operator(false), true
	case api.CellUnit:
		c.Op, args = r.operator(true), true
	case api.CellRead, api.CellWrite:
		c.Mem, args = r.number(), true
	case api.CellMux, api.CellReg:
		args = true
	}
	if c.Kind != api.CellWrite {
		c.Out = r.wire()
		r.widths = append(r.widths, r.number())
	}
	switch c.Kind {
	case api.CellConst, api.CellReg, api.CellUnit, api.CellInput:
		c.Num = r.wide(r.next())
	case api.CellOpen, api.CellData:
		c.Mem = r.number()
	}
	for args && len(r.words) > 0 && !r.bad {
		c.Args = append(c.Args, r.wire())
	}
	r.n.Cells = append(r.n.Cells, c)
}

// operator reads the name of a sequential operator, or of one of a CellOp.
func (r *reader) operator(sequential bool) int {
	op := bits.Find(r.next())
	isUnit := op >= api.OpMul && op <= api.OpSRem
	if op < api.OpAdd || op > api.OpTrunc || isUnit != sequential {
		r.bad = true
	}
	return op
}
