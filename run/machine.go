package run

import (
	"slices"

	"backstay/api"
	"backstay/bits"
)

// machine is a run that is under way.
type machine struct {
	f       api.Func
	starts  []int
	chooser chooser
	values  []api.Value
	known   []bool
	mem     [][]int
	steps   int
	trace   []int
	from    int
}

// How a block is left: for another block, with a value, or in one of the two ways in which nothing is known afterwards.
type (
	goes      struct{ to int }
	done      struct{ ret api.Value }
	undefined struct{}
	long      struct{}
)

func start(f api.Func, in api.Input, c chooser) *machine {
	m := &machine{f: f, chooser: c, from: -1}
	n := len(f.Params)
	for _, block := range f.Blocks {
		m.starts = append(m.starts, n)
		n += len(block)
	}
	m.values = make([]api.Value, n)
	m.known = make([]bool, n)
	for i, x := range in.Args {
		m.set(i, api.Value{N: x})
	}
	for _, slot := range in.Mem {
		m.mem = append(m.mem, slices.Clone(slot))
	}
	return m
}

func (m *machine) set(v int, x api.Value) {
	m.values[v] = x
	m.known[v] = true
}

// run goes from the entry to the end.
func (m *machine) run() api.Outcome {
	b := 0
	for {
		m.trace = append(m.trace, b)
		switch end := m.block(b).(type) {
		case goes:
			m.from, b = b, end.to
		case done:
			return api.Outcome{Kind: api.Done, Ret: end.ret, Mem: m.mem}
		case undefined:
			return api.Outcome{Kind: api.Undefined}
		default:
			return api.Outcome{Kind: api.Long}
		}
	}
}

// count counts an instruction, and tells whether it may be executed.
func (m *machine) count() bool {
	if m.steps == api.MaxSteps {
		return false
	}
	m.steps++
	return true
}

// block executes a block, and tells how it is left.
func (m *machine) block(b int) any {
	code := m.f.Blocks[b]
	n, ok := m.phis(b)
	if !ok {
		return long{}
	}
	for i := n; i < len(code)-1; i++ {
		if !m.count() {
			return long{}
		}
		if !m.execute(m.starts[b]+i, code[i]) {
			return undefined{}
		}
	}
	if !m.count() {
		return long{}
	}
	return m.leave(code[len(code)-1])
}

// phis reads all Phis of a block before it writes them, and tells how many there are.
func (m *machine) phis(b int) (int, bool) {
	var read []api.Value
	ok := true
	for _, x := range m.f.Blocks[b] {
		if x.Op != api.Phi {
			break
		}
		if ok = m.count(); !ok {
			break
		}
		read = append(read, m.values[x.Args[slices.Index(x.To, m.from)]])
	}
	for i, x := range read {
		m.set(m.starts[b]+i, x)
	}
	return len(read), ok
}

func (m *machine) leave(x api.Inst) any {
	switch x.Op {
	case api.Jump:
		return goes{x.To[0]}
	case api.Branch:
		c := m.values[x.Args[0]]
		if c.Poison {
			return undefined{}
		}
		return goes{x.To[1-c.N]}
	case api.Ret:
		if len(x.Args) == 0 {
			return done{}
		}
		return done{m.values[x.Args[0]]}
	}
	return undefined{}
}

// execute executes an instruction that is no Phi and no last one, and tells whether it is defined.
func (m *machine) execute(v int, x api.Inst) bool {
	var args [3]api.Value
	poison := false
	for i, a := range x.Args {
		args[i] = m.values[a]
		poison = poison || args[i].Poison
	}
	switch x.Op {
	case api.Load:
		return m.load(v, x.Width/8, args[0])
	case api.Store:
		return m.store(m.width(x.Args[1])/8, args[0], args[1])
	case api.UDiv, api.URem, api.SDiv, api.SRem:
		if !divides(x, args[0], args[1]) {
			return false
		}
	case api.Select:
		poison = args[0].Poison
	case api.Any, api.Freeze:
		if x.Op == api.Any || poison {
			args[0] = api.Value{N: m.chooser.choose(x.Width)}
		}
		poison = false
	case api.Poison:
		poison = true
	}
	if poison {
		m.set(v, api.Value{Poison: true})
	} else {
		m.set(v, m.result(x, args))
	}
	return true
}

func (m *machine) width(v int) int {
	if v < len(m.f.Params) {
		return m.f.Params[v]
	}
	b := len(m.starts) - 1
	for m.starts[b] > v {
		b--
	}
	return m.f.Blocks[b][v-m.starts[b]].Width
}

func divides(x api.Inst, a, b api.Value) bool {
	if b.Poison || b.N == 0 {
		return false
	}
	all, _ := bits.Mask(x.Width)
	signed := x.Op == api.SDiv || x.Op == api.SRem
	return !signed || b.N != all || !a.Poison && a.N != all>>1+1
}

// result is the value of an instruction whose Args, as far as they matter, are not poison.
func (m *machine) result(x api.Inst, args [3]api.Value) api.Value {
	a, b := args[0].N, args[1].N
	var n uint32
	if x.Op >= api.Add && x.Op <= api.AShr {
		word, is, _ := bits.Do(x.Op, x.Width, a, b)
		broken, _ := bits.Breaks(x.Op, x.Flags, x.Width, a, b)
		return clean(api.Value{Poison: !is || broken, N: word})
	}
	switch x.Op {
	case api.Const:
		n = x.Imm
	case api.Cmp:
		if is, _ := bits.Compare(int(x.Imm), m.width(x.Args[0]), a, b); is {
			n = 1
		}
	case api.Select:
		return args[2-a]
	case api.ZExt, api.SExt, api.Trunc:
		n, _ = bits.Extend(x.Op, m.width(x.Args[0]), x.Width, a)
	case api.PAdd, api.PSub:
		n, _ = bits.Lanes(x.Op, x.Width, int(x.Imm), a, b)
	case api.Freeze, api.Any:
		n = a
	case api.Addr:
		return api.Value{Slot: int(x.Imm) + 1}
	case api.Gep:
		return m.gep(x, args)
	}
	return api.Value{N: n}
}
