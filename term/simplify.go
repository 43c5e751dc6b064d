package term

import (
	"backstay/api"
	"backstay/pool"
)

// smaller makes a term again, node by node, with fewer nodes where it can.
type smaller struct {
	*pool.Pool
}

func (s *smaller) constant(k int) (uint32, bool) {
	x := s.Nodes()[k]
	return x.Imm, x.Op == api.Const
}

func (s *smaller) is(k int, n uint32) bool {
	imm, is := s.constant(k)
	return is && imm == n
}

// node returns the number of a node that means the same as one with these Args. It is one that is there, or one new node.
func (s *smaller) node(x api.Node, args []int) int {
	if n, is := s.fold(x, args); is {
		return s.Add(api.Node{Op: api.Const, Width: x.Width, Imm: n})
	}
	if k, is := s.drop(x, args); is {
		return k
	}
	x.Args = args
	return s.Add(x)
}

// fold computes a node all of whose Args are constants.
func (s *smaller) fold(x api.Node, args []int) (uint32, bool) {
	if len(args) == 0 {
		return 0, false
	}
	l := make([]uint32, len(s.Nodes()))
	for _, a := range args {
		n, is := s.constant(a)
		if !is {
			return 0, false
		}
		l[a] = n
	}
	x.Args = args
	return value(s.Nodes(), x, l, nil), true
}

// drop finds the Arg that a node is equal to.
func (s *smaller) drop(x api.Node, args []int) (int, bool) {
	switch x.Op {
	case api.Add, api.Or, api.Xor:
		if s.is(args[0], 0) {
			return args[1], true
		}
		return args[0], s.is(args[1], 0) || x.Op == api.Or && args[0] == args[1]
	case api.Sub, api.Shl, api.LShr, api.AShr:
		return args[0], s.is(args[1], 0)
	case api.Mul:
		if s.is(args[0], 1) {
			return args[1], true
		}
		return args[0], s.is(args[1], 1)
	case api.UDiv:
		return args[0], s.is(args[1], 1)
	case api.And:
		all := uint32(1<<x.Width - 1)
		if s.is(args[0], all) {
			return args[1], true
		}
		return args[0], s.is(args[1], all) || args[0] == args[1]
	case api.Select:
		if s.is(args[0], 0) || args[1] == args[2] {
			return args[2], true
		}
		return args[1], s.is(args[0], 1)
	}
	return 0, false
}

// Simplify returns a term that is equal in meaning, and has no more nodes than Share of the term.
func Simplify(t []api.Node) ([]api.Node, api.Errno) {
	u, e := Share(t)
	if e != api.OK {
		return nil, e
	}
	s := &smaller{pool.New()}
	var places []int
	for _, x := range u {
		var args []int
		for _, a := range x.Args {
			args = append(args, places[a])
		}
		k := s.node(x, args)
		places = append(places, k)
	}
	return pool.Share(s.Nodes(), places[len(places)-1]), api.OK
}
