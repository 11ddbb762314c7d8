package outbox

import "cartel/history"

// item is a command that waits to be sent to a replica.
type item struct {
	due   int
	to    int
	entry history.Entry
}

// queue is a heap by the time at which its items are due.
type queue []item

func (q queue) Len() int           { return len(q) }
func (q queue) Less(i, j int) bool { return q[i].due < q[j].due }
func (q queue) Swap(i, j int)      { q[i], q[j] = q[j], q[i] }

func (q *queue) Push(x any) {
	*q = append(*q, x.(item))
}

func (q *queue) Pop() any {
	last := len(*q) - 1
	x := (*q)[last]
	*q = (*q)[:last]
	return x
}
