// Package history keeps the commands that a replica knows, and what is ahead of what among them.
package history

import (
	"iter"
	"slices"

	"cartel/api"
	"cartel/commands"
)

// Reach tells which commands are known somewhere, by how many there are of each replica. A number is enough for that: a replica's commands are each ahead of the next, so those that are known are always its first ones.
type Reach struct {
	Of [api.MaxReplicas]int
}

// Has tells whether the seq-th command of the replica origin is among them.
func (r Reach) Has(origin, seq int) bool {
	return seq <= r.Of[origin]
}

// Covers tells whether all that is in the other reach is in this one too.
func (r Reach) Covers(other Reach) bool {
	for origin, n := range other.Of {
		if !r.Has(origin, n) {
			return false
		}
	}
	return true
}

// Join is the reach of what is in one of the two or in both.
func (r Reach) Join(other Reach) Reach {
	for origin, n := range other.Of {
		r.Of[origin] = max(r.Of[origin], n)
	}
	return r
}

// Entry is a command that was done as the Seq-th of the replica Origin. Ahead is what was known there at that time, so that it can be told anywhere which commands are ahead of it.
type Entry struct {
	Origin, Seq int
	Ahead       Reach
	Command     commands.Command
}

// Log has the commands that a replica knows, in the order in which they came to be known.
type Log struct {
	entries []Entry
	reach   Reach
}

// Do puts the next command of the replica origin, done where this log is kept, at the end.
func (l *Log) Do(origin int, c commands.Command) Entry {
	e := Entry{Origin: origin, Seq: l.reach.Of[origin] + 1, Ahead: l.reach, Command: c}
	l.put(e)
	return e
}

// Learn puts a command that was done elsewhere at the end, if it is the next one of its replica and all that is ahead of it is in the log. Any other is left out: it is there already, or it comes again when there is room for it in the order.
func (l *Log) Learn(e Entry) {
	if e.Seq == l.reach.Of[e.Origin]+1 && l.reach.Covers(e.Ahead) {
		l.put(e)
	}
}

func (l *Log) put(e Entry) {
	l.entries = append(l.entries, e)
	l.reach.Of[e.Origin] = e.Seq
}

// All goes through the log without giving it out of hand.
func (l *Log) All() iter.Seq[Entry] {
	return slices.Values(l.entries)
}

// Reach tells which commands are in the log.
func (l *Log) Reach() Reach {
	return l.reach
}

// Ops is the log as its reader outside is told it, in new memory.
func (l *Log) Ops() []api.Op {
	ops := make([]api.Op, 0, len(l.entries))
	for _, e := range l.entries {
		ops = append(ops, api.Op{Origin: e.Origin, Seq: e.Seq, Text: e.Command.Text()})
	}
	return ops
}
