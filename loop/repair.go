package loop

import (
	"slices"

	"backstay/api"
	"backstay/edit"
)

// reading finds the value that stands for an instruction of the loop, or its copy, in the blocks behind the loop.
type reading struct {
	r     *ring
	t     *twins
	x     *edit.Inst
	known map[*edit.Block]*edit.Inst // at the beginning of a block
	phis  []*edit.Inst
	homes []*edit.Block
}

// behind tells whether a block is neither in the loop nor a copy.
func (d *reading) behind(b *edit.Block) bool {
	for old, copied := range d.t.blocks {
		if b == old || b == copied {
			return false
		}
	}
	return true
}

// end is the value at the end of a block.
func (d *reading) end(b *edit.Block) *edit.Inst {
	if d.r.has(b) {
		return d.x
	}
	if !d.behind(b) {
		return d.t.inst(d.x)
	}
	return d.start(b)
}

// start is the value at the beginning of a block behind the loop; where several ways meet it is a new Phi.
func (d *reading) start(b *edit.Block) *edit.Inst {
	if x, is := d.known[b]; is {
		return x
	}
	before := d.r.f.Before(b)
	if len(before) == 1 {
		x := d.end(before[0])
		d.known[b] = x
		return x
	}
	phi := &edit.Inst{Op: api.Phi, Width: d.x.Width, To: before}
	d.known[b] = phi
	d.phis = append(d.phis, phi)
	d.homes = append(d.homes, b)
	for _, from := range before {
		a := d.end(from)
		phi.Args = append(phi.Args, a)
	}
	return phi
}

// only returns the one value that a Phi may be, other than itself.
func only(phi *edit.Inst) (*edit.Inst, bool) {
	var value *edit.Inst
	for _, a := range phi.Args {
		if a == phi || a == value {
			continue
		}
		if value != nil {
			return nil, false
		}
		value = a
	}
	return value, value != nil
}

// tidy leaves out the new Phis that are one value.
func (d *reading) tidy() {
	for changed := true; changed; {
		changed = false
		for i, phi := range d.phis {
			value, is := only(phi)
			if !is || d.homes[i] == nil {
				continue
			}
			d.homes[i].Remove(phi)
			d.homes[i] = nil
			d.r.f.Replace(phi, value)
			changed = true
		}
	}
}

// repair lets the uses of an instruction behind the loop name what is there now.
func (r *ring) repair(t *twins, x *edit.Inst) {
	d := &reading{r: r, t: t, x: x, known: map[*edit.Block]*edit.Inst{}}
	for _, b := range r.f.Blocks {
		if !d.behind(b) {
			continue
		}
		for _, user := range b.Insts {
			for i, a := range user.Args {
				switch {
				case a != x:
				case user.Op != api.Phi:
					user.Args[i] = d.start(b)
				case d.behind(user.To[i]):
					user.Args[i] = d.start(user.To[i])
				}
			}
		}
	}
	for i, phi := range d.phis {
		d.homes[i].Insts = slices.Insert(d.homes[i].Insts, 0, phi)
	}
	d.tidy()
}
