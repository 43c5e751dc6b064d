package seat_test

import (
	"slices"
	"testing"

	"backstay/api"
	"backstay/pick"
	"backstay/seat"
)

// mayRead tells by going all ways whether a register may be read before it is written, from a place of a block on.
func mayRead(p api.Program, r, block, at int) bool {
	seen := map[[2]int]bool{}
	work := [][2]int{{block, at}}
	for len(work) > 0 {
		w := work[0]
		work = work[1:]
		if seen[w] {
			continue
		}
		seen[w] = true
		x := p.Blocks[w[0]][w[1]]
		used, _ := pick.Uses(x)
		if slices.Contains(used, r) {
			return true
		}
		if x.Op == api.NJmp || x.Op == api.NBnz {
			work = append(work, [2]int{x.To, 0})
		}
		d, is, _ := pick.Defines(x)
		if x.Op != api.NJmp && x.Op != api.NHalt && x.Op != api.NStop && !(is && d == r) {
			work = append(work, [2]int{w[0], w[1] + 1})
		}
	}
	return false
}

// P20.2 and P21.2 by their definitions.
func TestClashByDefinition(t *testing.T) {
	r := &random{11}
	for range 400 {
		p := code(r)
		var want [][2]int
		for b, block := range p.Blocks {
			for i, x := range block {
				d, is, _ := pick.Defines(x)
				for other := range p.Regs {
					if is && other != d && !(x.Op == api.NMv && x.A == other) && mayRead(p, other, b, i+1) {
						want = append(want, [2]int{min(d, other), max(d, other)})
					}
				}
			}
		}
		slices.SortFunc(want, func(a, b [2]int) int { return slices.Compare(a[:], b[:]) })
		if l, e := seat.Clash(p); !slices.Equal(l, slices.Compact(want)) || e != api.OK {
			t.Fatal(p, l, want, e)
		}
		live, e := pick.Live(p)
		for b := range p.Blocks {
			for reg := range p.Regs {
				if slices.Contains(live[b], reg) != mayRead(p, reg, b, 0) || e != api.OK {
					t.Fatal(p, b, reg, live)
				}
			}
		}
	}
}
