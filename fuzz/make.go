package fuzz

import (
	"slices"

	"backstay/api"
	"backstay/flow"
)

// most is how many numbers matter.
const most = 200

// far is more than the number of a parameter, and than the place of an instruction in its block.
const far = 1000

// widths are the kinds of numbers that are made, the usual one first.
var widths = [8]int{8, 1, 4, 2, 8, 3, 16, 32}

// maker makes a function. Until the end, an Arg is a parameter, or far times (the block + 1) plus the place of an instruction.
type maker struct {
	take   func(n int) int
	narrow bool // one block, no choices, no slots, no Widths above 8
	f      api.Func
	graph  [][]int
	known  []int // the values that may be used at the place that is made
	now    int   // the block that is made
}

// taker returns a function that takes a number from 0 to n - 1 out of a list; it is 0 behind the end.
func taker(l []int) func(n int) int {
	if len(l) > most {
		l = l[:most]
	}
	at := 0
	return func(n int) int {
		if at == len(l) || n < 1 {
			return 0
		}
		at++
		return int(uint(l[at-1]) % uint(n))
	}
}

func (m *maker) width() int {
	if m.narrow {
		return widths[m.take(6)]
	}
	return widths[m.take(8)]
}

func (m *maker) kind(v int) int {
	if v < far {
		return m.f.Params[v]
	}
	return m.f.Blocks[v/far-1][v%far].Width
}

func (m *maker) size() int {
	n := 0
	for _, block := range m.f.Blocks {
		n += len(block)
	}
	return n
}

// put adds an instruction to the block that is made, and returns its value.
func (m *maker) put(x api.Inst) int {
	m.f.Blocks[m.now] = append(m.f.Blocks[m.now], x)
	v := far*(m.now+1) + len(m.f.Blocks[m.now]) - 1
	if x.Width > 0 {
		m.known = append(m.known, v)
	}
	return v
}

func (m *maker) word(w int) uint32 {
	corners := [6]uint32{0, 1, 1<<w - 1, 1 << (w - 1), uint32(w), uint32(m.take(256))}
	return corners[m.take(6)] & (1<<w - 1)
}

// need returns a known value of a kind; it makes a number where there is none.
func (m *maker) need(kind int) int {
	var l []int
	for _, v := range m.known {
		if m.kind(v) == kind {
			l = append(l, v)
		}
	}
	if kind == api.Pointer && len(l) == 0 {
		return m.put(api.Inst{Op: api.Addr, Width: kind, Imm: uint32(m.take(len(m.f.Slots)))})
	}
	if len(l) > 0 && (kind == api.Pointer || m.take(5) < 4) {
		return l[len(l)-1-m.take(len(l))]
	}
	if !m.narrow && m.take(16) == 15 {
		return m.put(api.Inst{Op: api.Any, Width: kind})
	}
	return m.put(api.Inst{Op: api.Const, Width: kind, Imm: m.word(kind)})
}

func (m *maker) header() {
	for range m.take(api.MaxParams + 1) {
		m.f.Params = append(m.f.Params, m.width())
	}
	if m.take(8) > 0 {
		m.f.Ret = m.width()
	}
	if m.narrow {
		m.graph = [][]int{nil}
		return
	}
	for range m.take(api.MaxSlots + 1) {
		m.f.Slots = append(m.f.Slots, 1+(m.take(api.MaxSize)+3)%api.MaxSize)
	}
	n := 1 + m.take(5)
	m.graph = make([][]int, n)
	for b := range m.graph {
		m.graph[b] = m.successors(b, n)
	}
}

// successors chooses where a block goes to, mostly forward.
func (m *maker) successors(b, n int) []int {
	target := func() int {
		if b < n-1 && m.take(4) < 3 {
			return b + 1 + m.take(n-1-b)
		}
		return 1 + m.take(n-1)
	}
	choice := m.take(6)
	if n == 1 || b == n-1 && choice < 4 || choice == 0 {
		return nil
	}
	to := []int{target()}
	if other := target(); choice > 1 && other != to[0] {
		to = append(to, other)
	}
	return to
}

// phis begins a block; their Args are made at the end.
func (m *maker) phis(before []int) {
	if len(before) == 0 {
		return
	}
	for range m.take(4) - 1 {
		v := m.known[m.take(len(m.known))]
		args := slices.Repeat([]int{v}, len(before))
		m.put(api.Inst{Op: api.Phi, Width: m.kind(v), Args: args, To: slices.Clone(before)})
	}
}

// settle gives the Phis of a block Args that are there at the end of the blocks before it.
func (m *maker) settle(b int, ends [][]int) {
	for i, x := range m.f.Blocks[b] {
		if x.Op != api.Phi {
			return
		}
		for k, from := range x.To {
			var l []int
			for _, v := range ends[from] {
				if m.kind(v) == x.Width {
					l = append(l, v)
				}
			}
			if len(l) > 0 { // there may be none at the end of a block that is not reached
				m.f.Blocks[b][i].Args[k] = l[m.take(len(l))]
			}
		}
	}
}

func (m *maker) last(to []int) {
	switch {
	case len(to) == 2:
		v := m.need(1)
		m.put(api.Inst{Op: api.Branch, Args: []int{v}, To: slices.Clone(to)})
	case len(to) == 1:
		m.put(api.Inst{Op: api.Jump, To: slices.Clone(to)})
	case !m.narrow && m.take(8) == 7:
		m.put(api.Inst{Op: api.Trap})
	case m.f.Ret == 0:
		m.put(api.Inst{Op: api.Ret})
	default:
		v := m.need(m.f.Ret)
		m.put(api.Inst{Op: api.Ret, Args: []int{v}})
	}
}

// block makes one block; left is how many are still to be made.
func (m *maker) block(b, left int) {
	m.now = b
	before, _ := flow.Before(m.graph, b)
	m.phis(before)
	for range m.take(8) - 2 {
		if m.size()+6+4*left > api.MaxInsts {
			break
		}
		m.operation()
	}
	m.last(m.graph[b])
}

// order is that of flow.Order, and then the blocks that are not reached.
func (m *maker) order() []int {
	order, _ := flow.Order(m.graph)
	for b := range m.graph {
		if !slices.Contains(order, b) {
			order = append(order, b)
		}
	}
	return order
}

func (m *maker) make() api.Func {
	m.header()
	m.f.Blocks = make([][]api.Inst, len(m.graph))
	ends := make([][]int, len(m.graph))
	order := m.order()
	for p := range m.f.Params {
		ends[0] = append(ends[0], p)
	}
	for i, b := range order {
		m.known = slices.Clone(ends[0])
		if parent, is, e := flow.Parent(m.graph, b); is && e == api.OK {
			m.known = slices.Clone(ends[parent])
		}
		if b == 0 && len(m.graph) > 1 {
			m.need(m.width())
		}
		m.block(b, len(order)-1-i)
		ends[b] = m.known
	}
	for b := range m.graph {
		m.settle(b, ends)
	}
	return m.number()
}

// number gives all values their numbers.
func (m *maker) number() api.Func {
	starts := make([]int, len(m.f.Blocks))
	n := len(m.f.Params)
	for b, block := range m.f.Blocks {
		starts[b] = n
		n += len(block)
	}
	for _, block := range m.f.Blocks {
		for _, x := range block {
			for i, v := range x.Args {
				if v >= far {
					x.Args[i] = starts[v/far-1] + v%far
				}
			}
		}
	}
	return m.f
}
