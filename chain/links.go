package chain

import (
	"errors"
	"slices"

	"backstay/api"
	"backstay/pick"
	"backstay/refine"
	"backstay/run"
)

// workers is how many goroutines ask the links.
const workers = 4

// refusal says that a link does not hold, or that it is too large to be asked.
type refusal struct {
	link  int
	errno api.Errno
}

func (r *refusal) Error() string {
	if r.errno == api.ErrProof {
		return "a link does not hold"
	}
	return "a link is too large"
}

// asker asks the links of a chain.
type asker struct {
	c api.Chain
	l []api.Func
}

// links is how many there are.
func (a *asker) links() int {
	return len(a.l) - 1 + 3
}

// at asks all links at an input, the first one first.
func (a *asker) at(in api.Input) error {
	outcomes, e := run.All(a.l[0], in)
	if e != api.OK {
		return &refusal{0, e}
	}
	if isOpen(outcomes) {
		return nil
	}
	var all [][]api.Outcome
	for i, f := range a.l {
		next, e := run.All(f, in)
		if e != api.OK {
			return &refusal{i, e}
		}
		all = append(all, next)
	}
	for i := 1; i < len(all); i++ {
		if !refine.PermitsAll(all[i-1], all[i]) {
			return &refusal{i - 1, api.ErrProof}
		}
	}
	return a.code(in, all[len(all)-1])
}

// code asks the last three links: outcomes are those of the last text.
func (a *asker) code(in api.Input, outcomes []api.Outcome) error {
	f := a.l[0]
	permits := func(out api.Outcome) bool {
		return refine.PermitsAll(outcomes, []api.Outcome{out})
	}
	first := len(a.l) - 1
	for i, p := range []api.Program{a.c.Code, a.c.Allocated} {
		mem, _ := pick.Memory(f, in)
		after, end, _, _ := pick.Execute(p, mem, [2]int{api.MaxRun / 8, api.MaxRun}[i])
		out, e := pick.Says(f, after)
		if e != api.OK || end != api.Halted || !permits(out) {
			return &refusal{first + i, api.ErrProof}
		}
	}
	if out, end, _ := execute(a.c, f, in); end != api.Halted || !permits(out) {
		return &refusal{first + 2, api.ErrProof}
	}
	return nil
}

// worse returns the refusal of two that is told: one that is too large, or else the one of the first link.
func worse(a, b error) error {
	var r, s *refusal
	switch {
	case !errors.As(a, &r):
		return b
	case !errors.As(b, &s):
		return a
	case r.errno != api.ErrProof, s.errno == api.ErrProof && r.link <= s.link:
		return a
	}
	return b
}

// some asks the links at each input whose number is a multiple of the workers and one more.
func (a *asker) some(worker, n int) error {
	var worst error
	for k := worker; k < n; k += workers {
		in, _ := refine.Input(a.l[0], k)
		err := a.at(in)
		worst = worse(worst, err)
	}
	return worst
}

// all asks the links at the first n inputs.
func (a *asker) all(n int) error {
	var answers []chan error
	for w := range workers {
		answer := make(chan error)
		go func() {
			answer <- a.some(w, n)
		}()
		answers = append(answers, answer)
	}
	var worst error
	for _, answer := range answers {
		err := <-answer
		worst = worse(worst, err)
	}
	return worst
}

// result returns what is told of a refusal, or of none.
func (a *asker) result(err error) (int, api.Errno) {
	var r *refusal
	if !errors.As(err, &r) {
		return a.links(), api.OK
	}
	if r.errno != api.ErrProof {
		return 0, r.errno
	}
	return r.link, api.ErrProof
}

// copyOf returns a chain in new memory.
func copyOf(c api.Chain) api.Chain {
	d := api.Chain{Set: c.Set, Texts: slices.Clone(c.Texts), Image: slices.Clone(c.Image)}
	d.Code = copyProgram(c.Code)
	d.Allocated = copyProgram(c.Allocated)
	return d
}

func copyProgram(p api.Program) api.Program {
	q := api.Program{Regs: p.Regs}
	for _, block := range p.Blocks {
		q.Blocks = append(q.Blocks, slices.Clone(block))
	}
	return q
}

// Check asks all links at all inputs that are tried.
func Check(c api.Chain) (int, api.Errno) {
	l, e := open(c)
	if e != api.OK {
		return 0, e
	}
	n, e := refine.Inputs(l[0])
	if e != api.OK {
		return 0, e
	}
	a := &asker{c, l}
	return a.result(a.all(n))
}

// At asks the links at one input.
func At(c api.Chain, in api.Input) (int, api.Errno) {
	l, e := open(c)
	if e != api.OK {
		return 0, e
	}
	if e := run.ValidateInput(l[0], in); e != api.OK {
		return 0, e
	}
	a := &asker{c, l}
	return a.result(a.at(in))
}
