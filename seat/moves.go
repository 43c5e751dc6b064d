package seat

import (
	"slices"

	"backstay/api"
)

// mostRegister is the greatest register of moves.
const mostRegister = 30

func isRegister(r int) bool {
	return r >= 0 && r <= mostRegister
}

// ValidateMoves returns what is wrong with moves in parallel.
func ValidateMoves(l []api.Move) api.Errno {
	if len(l) > api.MaxMoves {
		return api.ErrLarge
	}
	for _, m := range l {
		if !isRegister(m.To) || !isRegister(m.From) {
			return api.ErrArg
		}
	}
	for i, m := range l {
		if slices.ContainsFunc(l[:i], func(other api.Move) bool { return other.To == m.To }) {
			return api.ErrRule
		}
	}
	return api.OK
}

// row makes moves one after another.
type row struct {
	waiting map[int]int // what each register that is not written yet wants
	where   map[int]int // the register in which the old word of one is now
	done    []api.Move
}

func newRow(l []api.Move) *row {
	r := &row{waiting: map[int]int{}, where: map[int]int{}}
	for _, m := range l {
		r.waiting[m.To] = m.From
		r.where[m.From] = m.From
	}
	for to, from := range r.waiting {
		if to == from {
			delete(r.waiting, to)
		}
	}
	return r
}

// isRead tells whether the old word of a register is still wanted, and nowhere else.
func (r *row) isRead(register int) bool {
	if now, is := r.where[register]; !is || now != register {
		return false
	}
	for to, from := range r.waiting {
		if from == register && to != register {
			return true
		}
	}
	return false
}

// move writes a register.
func (r *row) move(to, from int) {
	r.done = append(r.done, api.Move{To: to, From: r.where[from]})
	r.where[from] = to
	delete(r.waiting, to)
}

// next returns the first register that may be written, or the first one that waits and false.
func (r *row) next() (int, bool) {
	first := -1
	for to := range mostRegister + 1 {
		if _, is := r.waiting[to]; !is {
			continue
		}
		if !r.isRead(to) {
			return to, true
		}
		if first < 0 {
			first = to
		}
	}
	return first, false
}

// finish makes all moves.
func (r *row) finish(spare int) []api.Move {
	for len(r.waiting) > 0 {
		to, is := r.next()
		if !is {
			// All that is left are rings: the old word of one register is kept in the spare one.
			r.done = append(r.done, api.Move{To: spare, From: to})
			r.where[to] = spare
		}
		r.move(to, r.waiting[to])
	}
	return r.done
}

// Row returns moves that, one after another, do what moves in parallel do.
func Row(l []api.Move, spare int) ([]api.Move, api.Errno) {
	if e := ValidateMoves(l); e != api.OK {
		return nil, e
	}
	if !isRegister(spare) {
		return nil, api.ErrArg
	}
	if slices.ContainsFunc(l, func(m api.Move) bool { return m.To == spare || m.From == spare }) {
		return nil, api.ErrFit
	}
	return newRow(l).finish(spare), api.OK
}

// Fewest returns the smallest number of moves of a row.
func Fewest(l []api.Move) (int, api.Errno) {
	if e := ValidateMoves(l); e != api.OK {
		return 0, e
	}
	return len(newRow(l).finish(mostRegister + 1)), api.OK
}
