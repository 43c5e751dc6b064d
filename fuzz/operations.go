package fuzz

import "backstay/api"

// operation adds an instruction that is no Phi and no last one.
func (m *maker) operation() {
	choice := m.take(16)
	switch {
	case choice < 7:
		m.arithmetic()
	case choice < 9:
		m.compare()
	case choice < 10:
		m.pick()
	case choice < 12:
		m.extend()
	case choice < 13:
		m.lanes()
	case m.narrow:
		m.arithmetic()
	case choice < 14 || len(m.f.Slots) == 0:
		m.loose()
	default:
		m.memory()
	}
}

func (m *maker) arithmetic() {
	op, w := api.Add+m.take(13), m.width()
	a := m.need(w)
	b := m.need(w)
	flags := 0
	switch op {
	case api.Add, api.Sub, api.Mul, api.Shl:
		flags = m.take(8) % 5 % 4
	case api.UDiv, api.SDiv, api.LShr, api.AShr:
		flags = api.Exact * (m.take(4) / 3)
	}
	m.put(api.Inst{Op: op, Width: w, Flags: flags, Args: []int{a, b}})
}

func (m *maker) compare() {
	w := m.width()
	a := m.need(w)
	b := m.need(w)
	m.put(api.Inst{Op: api.Cmp, Width: 1, Imm: uint32(m.take(10)), Args: []int{a, b}})
}

func (m *maker) pick() {
	w := m.width()
	if len(m.f.Slots) > 0 && m.take(3) == 0 {
		w = api.Pointer
	}
	c := m.need(1)
	a := m.need(w)
	b := m.need(w)
	m.put(api.Inst{Op: api.Select, Width: w, Args: []int{c, a, b}})
}

func (m *maker) extend() {
	from, to := m.width(), m.width()
	op := api.ZExt + m.take(2)
	switch {
	case from == to:
		return
	case from > to:
		op = api.Trunc
	}
	v := m.need(from)
	m.put(api.Inst{Op: op, Width: to, Args: []int{v}})
}

func (m *maker) lanes() {
	w := [2]int{8, 4}[m.take(2)]
	a := m.need(w)
	b := m.need(w)
	m.put(api.Inst{Op: api.PAdd + m.take(2), Width: w, Imm: uint32(1 << m.take(2)), Args: []int{a, b}})
}

// loose adds a poison, a choice or a freeze.
func (m *maker) loose() {
	w := m.width()
	switch m.take(4) {
	case 0:
		m.put(api.Inst{Op: api.Poison, Width: w})
	case 1:
		m.put(api.Inst{Op: api.Any, Width: w})
	default:
		v := m.need(w)
		m.put(api.Inst{Op: api.Freeze, Width: w, Args: []int{v}})
	}
}

func (m *maker) memory() {
	w := [3]int{8, 16, 32}[m.take(5)/2]
	p := m.need(api.Pointer)
	switch m.take(3) {
	case 0:
		m.put(api.Inst{Op: api.Load, Width: w, Args: []int{p}})
	case 1:
		v := m.need(w)
		m.put(api.Inst{Op: api.Store, Args: []int{p, v}})
	default:
		v := m.put(api.Inst{Op: api.Const, Width: 4, Imm: uint32(m.take(9) % 5)})
		m.put(api.Inst{Op: api.Gep, Width: api.Pointer, Flags: api.Inside * m.take(2), Args: []int{p, v}})
	}
}
