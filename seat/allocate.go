package seat

import (
	"slices"

	"backstay/api"
	"backstay/pick"
)

// none stands for no register and no place.
const none = -1

// allocation says where each register is: in one of the k registers, or in a place of the frame.
type allocation struct {
	k      int
	seats  []int
	places []int
	used   int // places
	code   []api.Code
}

// weights counts how often each register is named.
func weights(p api.Program) []int {
	l := make([]int, p.Regs)
	for _, block := range p.Blocks {
		for _, x := range block {
			used, _ := pick.Uses(x)
			for _, r := range used {
				l[r]++
			}
			if d, writes, _ := pick.Defines(x); writes {
				l[d]++
			}
		}
	}
	return l
}

// stack returns the registers in the order in which they are taken away: those that clash with less than k others as long as there are such, and otherwise one that is named rarely and clashes often.
func stack(p api.Program, k int, g *graph) []int {
	weight := weights(p)
	degree := make([]int, p.Regs)
	gone := make([]bool, p.Regs)
	for a := range degree {
		for b := range degree {
			if g[a][b] {
				degree[a]++
			}
		}
	}
	var l []int
	for len(l) < p.Regs {
		best := none
		for r := range degree {
			switch {
			case gone[r]:
			case best == none || degree[r] < k && degree[best] >= k:
				best = r
			case degree[r] >= k && degree[best] >= k && weight[r]*degree[best] < weight[best]*degree[r]:
				best = r
			}
		}
		gone[best] = true
		l = append(l, best)
		for b := range degree {
			if g[best][b] {
				degree[b]--
			}
		}
	}
	return l
}

// seat gives each register a seat or a place, the last one that was taken away first.
func seat(p api.Program, k int) *allocation {
	g := clashes(p)
	a := &allocation{k: k, seats: make([]int, p.Regs), places: make([]int, p.Regs)}
	for r := range p.Regs {
		a.seats[r], a.places[r] = none, none
	}
	for _, r := range slices.Backward(stack(p, k, g)) {
		var taken [mostColors]bool
		for other, s := range a.seats {
			if s != none && g[r][other] {
				taken[s] = true
			}
		}
		a.seats[r] = slices.Index(taken[:k], false)
		if a.seats[r] == none {
			a.places[r] = a.used
			a.used++
		}
	}
	return a
}

func frameAt(place int) uint32 {
	return uint32(api.FrameAt + 4*place)
}

func (a *allocation) add(x api.Code) {
	a.code = append(a.code, x)
}

// read returns the seat of a register; what is in a place is loaded into one of the two registers for this.
func (a *allocation) read(r, other int) int {
	if r < 0 || a.seats[r] != none {
		return a.seat(r)
	}
	a.add(api.Code{Op: api.NLw, D: other, A: -1, Imm: frameAt(a.places[r])})
	return other
}

func (a *allocation) seat(r int) int {
	if r < 0 {
		return r
	}
	return a.seats[r]
}

// move covers a move; at most one of both needs the memory.
func (a *allocation) move(x api.Code) {
	to := a.seats[x.D]
	switch from := a.seats[x.A]; {
	case to != none && from == none:
		a.add(api.Code{Op: api.NLw, D: to, A: -1, Imm: frameAt(a.places[x.A])})
	case to == none && x.D != x.A:
		from = a.read(x.A, a.k)
		a.add(api.Code{Op: api.NSw, A: -1, B: from, Imm: frameAt(a.places[x.D])})
	case to != from:
		a.add(api.Code{Op: api.NMv, D: to, A: from})
	}
}

// instruction covers an instruction.
func (a *allocation) instruction(x api.Code) {
	if x.Op == api.NMv {
		a.move(x)
		return
	}
	used, _ := pick.Uses(x)
	d, writes, _ := pick.Defines(x)
	if slices.Contains(used, x.A) {
		x.A = a.read(x.A, a.k)
	}
	if hasB := x.Op >= api.NAdd && x.Op <= api.NSeq || x.Op >= api.NSb && x.Op <= api.NSw; hasB {
		x.B = a.read(x.B, a.k+1)
	}
	if writes && a.seats[d] == none {
		x.D = a.k
		a.add(x)
		a.add(api.Code{Op: api.NSw, A: -1, B: a.k, Imm: frameAt(a.places[d])})
		return
	}
	if writes {
		x.D = a.seats[d]
	}
	a.add(x)
}

// begin returns a block that writes 0 into the places of registers that are read before they are written.
func (a *allocation) begin(p api.Program) []api.Code {
	live, _ := pick.Live(p)
	var l []api.Code
	for _, r := range live[0] {
		if a.seats[r] == none {
			l = append(l, api.Code{Op: api.NSw, A: -1, B: a.k, Imm: frameAt(a.places[r])})
		}
	}
	return l
}

// Allocate returns code with k registers and two more, and how many frame places it uses.
func Allocate(p api.Program, k int) (api.Program, int, api.Errno) {
	if e := pick.Validate(p); e != api.OK {
		return api.Program{}, 0, e
	}
	if k < 1 || k > mostColors {
		return api.Program{}, 0, api.ErrArg
	}
	a := seat(p, k)
	q := api.Program{Regs: k + 2}
	first := a.begin(p)
	if len(first) > 0 {
		// Registers are 0 at first; block 0 may be entered again, so that this needs a block of its own.
		q.Blocks = append(q.Blocks, append(first, api.Code{Op: api.NJmp, To: 1}))
	}
	shift := len(q.Blocks)
	for _, block := range p.Blocks {
		a.code = nil
		for _, x := range block {
			if x.Op == api.NJmp || x.Op == api.NBnz {
				x.To += shift
			}
			a.instruction(x)
		}
		q.Blocks = append(q.Blocks, a.code)
	}
	if pick.Validate(q) != api.OK {
		return api.Program{}, 0, api.ErrLarge
	}
	return q, a.used, api.OK
}
