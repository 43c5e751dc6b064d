package flow

import "backstay/api"

func backs(g [][]int) [][2]int {
	var edges [][2]int
	for _, a := range reached(g).list() {
		for _, b := range successors(g, a).list() {
			if dominates(g, b, a) {
				edges = append(edges, [2]int{a, b})
			}
		}
	}
	return edges
}

// Backs returns the back edges.
func Backs(g [][]int) ([][2]int, api.Errno) {
	if e := Validate(g); e != api.OK {
		return nil, e
	}
	return backs(g), api.OK
}

func heads(g [][]int) set {
	var s set
	for _, edge := range backs(g) {
		s[edge[1]] = true
	}
	return s
}

// loop is the loop of a head.
func loop(g [][]int, head int) set {
	seen := reached(g)
	var in set
	in[head] = true
	var visit func(v int)
	visit = func(v int) {
		if in[v] || !seen[v] {
			return
		}
		in[v] = true
		for _, u := range before(g, v).list() {
			visit(u)
		}
	}
	for _, edge := range backs(g) {
		if edge[1] == head {
			visit(edge[0])
		}
	}
	return in
}

// Loop returns the loop of a head.
func Loop(g [][]int, head int) ([]int, api.Errno) {
	if e := Validate(g); e != api.OK {
		return nil, e
	}
	if !isNode(g, head) {
		return nil, api.ErrNone
	}
	if !heads(g)[head] {
		return nil, api.ErrState
	}
	return loop(g, head).list(), api.OK
}

// Depth returns of how many heads a node is in the loop.
func Depth(g [][]int, v int) (int, api.Errno) {
	if e := check(g, v); e != api.OK {
		return 0, e
	}
	depth := 0
	for _, head := range heads(g).list() {
		if loop(g, head)[v] {
			depth++
		}
	}
	return depth, api.OK
}

// IsReducible reports whether there is no ring without a back edge.
func IsReducible(g [][]int) (bool, api.Errno) {
	if e := Validate(g); e != api.OK {
		return false, e
	}
	var open, done set
	var isFree func(v int) bool
	isFree = func(v int) bool {
		if open[v] || done[v] {
			return done[v]
		}
		open[v] = true
		for _, next := range g[v] {
			if !dominates(g, next, v) && !isFree(next) {
				return false
			}
		}
		done[v] = true
		return true
	}
	return isFree(0), api.OK
}
