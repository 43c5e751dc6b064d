package rule

import (
	"slices"
	"strconv"
	"strings"

	"backstay/api"
	"backstay/pool"
)

// numbering gives Vars and Holes new numbers in the order in which they are met.
type numbering struct {
	vars, holes []uint32
}

// of returns the new number of an old one.
func of(l *[]uint32, n uint32) uint32 {
	if !slices.Contains(*l, n) {
		*l = append(*l, n)
	}
	return uint32(slices.Index(*l, n))
}

func (n *numbering) node(x api.Node) string {
	switch x.Op {
	case api.Var:
		x.Imm = of(&n.vars, x.Imm)
	case api.Hole:
		x.Imm = of(&n.holes, x.Imm)
	}
	s := strconv.Itoa(x.Op) + "." + strconv.Itoa(x.Width) + "." + strconv.Itoa(x.Flags) + "." + number(x.Imm)
	for _, a := range x.Args {
		s += "," + strconv.Itoa(a)
	}
	return s
}

func number(n uint32) string {
	return strconv.FormatUint(uint64(n), 10)
}

func (n *numbering) side(p []api.Node) string {
	s := ""
	for _, x := range pool.Share(p, len(p)-1) {
		s += n.node(x) + " "
	}
	return s
}

// Key returns a text that rules have in common if they differ by nothing that matters.
func Key(r api.Rule) (string, api.Errno) {
	if e := Validate(r); e != api.OK {
		return "", e
	}
	n := &numbering{}
	s := n.side(r.Left) + "=> "
	s += n.side(r.Right) + "if "
	var pre []string
	for _, c := range r.Pre {
		pre = append(pre, strconv.Itoa(c.Kind)+"."+number(of(&n.holes, uint32(c.Hole)))+"."+number(c.Imm))
	}
	slices.Sort(pre)
	return s + strings.Join(slices.Compact(pre), " "), api.OK
}
