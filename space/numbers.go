package space

import "container/heap"

// numbers is a heap, the least one ahead; but for least its methods are container/heap's alone.
type numbers []int

// least: the least number, which goes.
func (l *numbers) least() int {
	return heap.Pop(l).(int)
}

// Len: how many.
func (l numbers) Len() int { return len(l) }

// Less: does the one stand ahead of the other?
func (l numbers) Less(i, j int) bool { return l[i] < l[j] }

// Swap: each stands where the other stood.
func (l numbers) Swap(i, j int) { l[i], l[j] = l[j], l[i] }

// Push: a number more, at the end.
func (l *numbers) Push(x any) { *l = append(*l, x.(int)) }

// Pop: the number at the end, which goes.
func (l *numbers) Pop() any {
	last := len(*l) - 1
	x := (*l)[last]
	*l = (*l)[:last]
	return x
}
