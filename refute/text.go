package refute

import (
	"strconv"
	"strings"

	"jacquard/api"
)

// Format returns the text of a refutation: ErrForm if a node has an unknown kind, ErrLimit if the text is too long.
func Format(r Refutation) (string, api.Errno) {
	var b strings.Builder
	line := func(word string, numbers ...int) {
		b.WriteString(word)
		for _, n := range numbers {
			b.WriteByte(' ')
			b.WriteString(strconv.Itoa(n))
		}
		b.WriteByte('\n')
	}
	line("interval", r.II)
	for _, n := range r.Tree {
		switch n.Kind {
		case api.RefSplit:
			line("split", append([]int{n.Inst}, n.Kids...)...)
		case api.RefWalk:
			line("walk", n.Walk...)
		case api.RefFull:
			line("full", n.Res, n.Unit, n.Slot)
		case api.RefLong:
			line("long", n.Inst)
		default:
			return "", api.ErrForm
		}
	}
	if b.Len() > api.MaxSource {
		return "", api.ErrLimit
	}
	return b.String(), api.OK
}

// readLine returns the word and the numbers of a line.
func readLine(line string) (word string, numbers []int, ok bool) {
	word, rest, more := strings.Cut(line, " ")
	for more {
		var s string
		s, rest, more = strings.Cut(rest, " ")
		n, err := strconv.Atoi(s)
		if err != nil || strconv.Itoa(n) != s {
			return "", nil, false
		}
		numbers = append(numbers, n)
	}
	return word, numbers, true
}

// readNode returns the node that a line describes.
func readNode(word string, l []int) (RefNode, bool) {
	switch {
	case word == "split" && len(l) >= 1:
		return RefNode{Kind: api.RefSplit, Inst: l[0], Kids: append([]int(nil), l[1:]...)}, true
	case word == "walk":
		return RefNode{Kind: api.RefWalk, Walk: l}, true
	case word == "full" && len(l) == 3:
		return RefNode{Kind: api.RefFull, Res: l[0], Unit: l[1], Slot: l[2]}, true
	case word == "long" && len(l) == 1:
		return RefNode{Kind: api.RefLong, Inst: l[0]}, true
	}
	return RefNode{}, false
}

// Parse returns the refutation of a text: ErrLimit, ErrSyntax.
func Parse(s string) (Refutation, api.Errno) {
	if len(s) > api.MaxSource {
		return Refutation{}, api.ErrLimit
	}
	var r Refutation
	for first := true; first || s != ""; first = false {
		line, rest, ended := strings.Cut(s, "\n")
		word, numbers, ok := readLine(line)
		if !ended || !ok {
			return Refutation{}, api.ErrSyntax
		}
		s = rest
		if first {
			if word != "interval" || len(numbers) != 1 {
				return Refutation{}, api.ErrSyntax
			}
			r.II = numbers[0]
			continue
		}
		n, ok := readNode(word, numbers)
		if !ok {
			return Refutation{}, api.ErrSyntax
		}
		r.Tree = append(r.Tree, n)
	}
	return r, api.OK
}
