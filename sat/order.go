package sat

// order is a heap of variables, those that were met in many of the last conflicts first.
type order struct {
	heap   []int
	places []int // of a variable in the heap, or none
	scores []int
	step   int
}

// highest is a score at which all scores are made smaller.
const highest = 1 << 56

func newOrder(n int) order {
	o := order{places: make([]int, n+1), scores: make([]int, n+1), step: 1 << 10}
	for v := 1; v <= n; v++ {
		o.places[v] = v - 1
		o.heap = append(o.heap, v)
	}
	return o
}

func (o *order) before(v, u int) bool {
	if o.scores[v] != o.scores[u] {
		return o.scores[v] > o.scores[u]
	}
	return v < u
}

func (o *order) put(i, v int) {
	o.heap[i] = v
	o.places[v] = i
}

func (o *order) up(i int) {
	v := o.heap[i]
	for i > 0 && o.before(v, o.heap[(i-1)/2]) {
		o.put(i, o.heap[(i-1)/2])
		i = (i - 1) / 2
	}
	o.put(i, v)
}

func (o *order) down(i int) {
	v := o.heap[i]
	for 2*i+1 < len(o.heap) {
		child := 2*i + 1
		if child+1 < len(o.heap) && o.before(o.heap[child+1], o.heap[child]) {
			child++
		}
		if !o.before(o.heap[child], v) {
			break
		}
		o.put(i, o.heap[child])
		i = child
	}
	o.put(i, v)
}

func (o *order) insert(v int) {
	if o.places[v] != none {
		return
	}
	o.heap = append(o.heap, v)
	o.places[v] = len(o.heap) - 1
	o.up(len(o.heap) - 1)
}

// next takes the first variable out; it is 0 if there is none.
func (o *order) next() int {
	if len(o.heap) == 0 {
		return 0
	}
	v := o.heap[0]
	last := o.heap[len(o.heap)-1]
	o.heap = o.heap[:len(o.heap)-1]
	o.places[v] = none
	if len(o.heap) > 0 {
		o.put(0, last)
		o.down(0)
	}
	return v
}

func (o *order) bump(v int) {
	o.scores[v] += o.step
	if o.places[v] != none {
		o.up(o.places[v])
	}
}

// decay makes what is met later count for more.
func (o *order) decay() {
	o.step += o.step / 16
	if o.step < highest {
		return
	}
	for v := range o.scores {
		o.scores[v] >>= 40
	}
	o.step >>= 40
	// Scores that have become equal are ordered by the variables.
	for i := len(o.heap)/2 - 1; i >= 0; i-- {
		o.down(i)
	}
}
