package place

import (
	"container/heap"
	"slices"

	"tailor/api"
)

// order puts steps, listed by the places to which they go, in an order in which they may be. Where copies wait for each other in a ring, the shortest of them becomes an Add. The steps are put in order anew then, so that the last order is that of the steps that there are.
func order(steps []api.Step, next string) []api.Step {
	for {
		w := newWeb(steps)
		list, ok := w.sorted()
		if ok {
			return list
		}
		k := w.shortestOfRing()
		steps[k] = addOf(next, steps[k].To, steps[k].Size)
		steps = joined(steps, next)
	}
}

// joined makes one Add of those that are side by side.
func joined(steps []api.Step, next string) []api.Step {
	var list []api.Step
	for _, s := range steps {
		last := len(list) - 1
		if last >= 0 && s.Kind == api.Add && list[last].Kind == api.Add {
			list[last] = addOf(next, list[last].To, list[last].Size+s.Size)
			continue
		}
		list = append(list, s)
	}
	return list
}

// web tells which steps wait for which, all by their numbers in the list.
type web struct {
	steps  []api.Step
	ahead  [][]int // of each step the copies that come from where it goes: they must be ahead of it
	behind [][]int // of each Copy the steps that go to where it comes from
	waits  []int   // of each step how many of those ahead of it are not done
}

func newWeb(steps []api.Step) *web {
	n := len(steps)
	w := &web{steps: steps, ahead: make([][]int, n), behind: make([][]int, n), waits: make([]int, n)}
	for k, s := range steps {
		if s.Kind == api.Copy {
			w.tie(k)
		}
	}
	return w
}

// tie lets the steps that go to where a Copy comes from wait for it; the Copy itself need not, since it reads ahead of writing.
func (w *web) tie(k int) {
	from, end := w.steps[k].From, w.steps[k].From+w.steps[k].Size
	first, _ := slices.BinarySearchFunc(w.steps, from, func(s api.Step, from int) int { return s.To + s.Size - from - 1 })
	for i := first; i < len(w.steps) && w.steps[i].To < end; i++ {
		if i == k {
			continue
		}
		w.ahead[i] = append(w.ahead[i], k)
		w.behind[k] = append(w.behind[k], i)
		w.waits[i]++
	}
}

// sorted does the steps one by one, each time that which goes to the first place of those that wait for none; it tells whether all could be done.
func (w *web) sorted() ([]api.Step, bool) {
	ready := &queue{}
	for k, n := range w.waits {
		if n == 0 {
			heap.Push(ready, k)
		}
	}
	var list []api.Step
	for ready.Len() > 0 {
		k := heap.Pop(ready).(int)
		list = append(list, w.steps[k])
		for _, i := range w.behind[k] {
			w.waits[i]--
			if w.waits[i] == 0 {
				heap.Push(ready, i)
			}
		}
	}
	return list, len(list) == len(w.steps)
}

// shortestOfRing is a Copy of a ring: behind sorted, some step waits still, and so does one that it waits for, and so on: that leads round at last.
func (w *web) shortestOfRing() int {
	at := slices.IndexFunc(w.waits, waiting)
	for range w.steps { // as many as would do to be in the ring
		at = w.holder(at)
	}
	short := at
	for k := w.holder(at); k != at; k = w.holder(k) {
		if w.steps[k].Size < w.steps[short].Size {
			short = k
		}
	}
	return short
}

func waiting(n int) bool { return n > 0 }

// holder is the first of those for which a step waits that waits itself.
func (w *web) holder(k int) int {
	for _, i := range w.ahead[k] {
		if waiting(w.waits[i]) {
			return i
		}
	}
	return k
}

// queue is a heap of steps by their numbers, and so by the places to which they go.
type queue []int

func (q queue) Len() int           { return len(q) }
func (q queue) Less(i, j int) bool { return q[i] < q[j] }
func (q queue) Swap(i, j int)      { q[i], q[j] = q[j], q[i] }
func (q *queue) Push(x any)        { *q = append(*q, x.(int)) }
func (q *queue) Pop() any {
	last := len(*q) - 1
	x := (*q)[last]
	*q = (*q)[:last]
	return x
}
