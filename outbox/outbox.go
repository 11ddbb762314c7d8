// Package outbox has what a replica is to send to the others, and when.
package outbox

import (
	"cmp"
	"container/heap"
	"slices"

	"cartel/api"
	"cartel/history"
)

// patience is how many ticks go by till a command is sent again. More than one would be too slow for a sender that is full: it has two rounds, one to ask again and one to be answered.
const patience = 1

// Box has the commands that were done here, for each other replica those that it may not know yet, and whom an answer is owed.
type Box struct {
	now     int
	waiting queue
	owed    [api.MaxReplicas]bool
}

// Mail is what is to be sent to one replica. Without entries it is an answer alone.
type Mail struct {
	To      int
	Entries []history.Entry
}

// Tick lets time go by.
func (b *Box) Tick() {
	b.now++
}

// Put has the command sent, from now on again and again until it is Known.
func (b *Box) Put(to int, e history.Entry) {
	heap.Push(&b.waiting, item{due: b.now, to: to, entry: e})
}

// Known ends the sending of the first commands, so many of them, as the replica knows them.
func (b *Box) Known(to, count int) {
	b.waiting = slices.DeleteFunc(b.waiting, func(i item) bool {
		return i.to == to && i.entry.Seq <= count
	})
	heap.Init(&b.waiting)
}

// Owe has an answer sent to the replica.
func (b *Box) Owe(to int) {
	b.owed[to] = true
}

// Open is how many of the commands some other replica may not know. Who does not know one knows none behind it, so these are as many as wait for the replica for which most do.
func (b *Box) Open() int {
	var count [api.MaxReplicas]int
	for _, i := range b.waiting {
		count[i.to]++
	}
	return slices.Max(count[:])
}

// Take is what is to be sent by now, told once; the commands wait to be sent again.
func (b *Box) Take() []Mail {
	var mail []Mail
	for to, entries := range b.takeDue() {
		if len(entries) > 0 || b.owed[to] {
			mail = append(mail, Mail{To: to, Entries: entries})
		}
	}
	b.owed = [api.MaxReplicas]bool{}
	return mail
}

// takeDue answers for each replica the commands in the order in which they were done, the one in which they can come to be known; that of the heap may be another.
func (b *Box) takeDue() [api.MaxReplicas][]history.Entry {
	var due [api.MaxReplicas][]history.Entry
	for len(b.waiting) > 0 && b.waiting[0].due <= b.now {
		i := heap.Pop(&b.waiting).(item)
		due[i.to] = append(due[i.to], i.entry)
		i.due = b.now + patience
		heap.Push(&b.waiting, i)
	}
	for _, entries := range due {
		slices.SortFunc(entries, func(x, y history.Entry) int { return cmp.Compare(x.Seq, y.Seq) })
	}
	return due
}
