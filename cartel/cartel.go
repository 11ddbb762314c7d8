// Package cartel: one shopping cart that several replicas keep: see DOC.md.
package cartel

import (
	"sync"

	"cartel/api"
	"cartel/cart"
	"cartel/commands"
	"cartel/history"
	"cartel/outbox"
	"cartel/wire"
)

// Replica is one of those that keep the cart.
type Replica struct {
	lock     sync.Mutex // held by each call while it is at work
	me       int
	replicas int
	log      history.Log
	box      outbox.Box
}

// New makes a replica (P3).
func New(me int, replicas int) (*Replica, api.Errno) {
	if replicas < api.MinReplicas || replicas > api.MaxReplicas || me < 0 || me >= replicas {
		return nil, api.ErrArg
	}
	return &Replica{me: me, replicas: replicas}, api.OK
}

// Do carries out a command (P4, P5).
func (r *Replica) Do(command string) api.Errno {
	r.lock.Lock()
	defer r.lock.Unlock()
	c, ok := commands.Parse(command)
	if !ok {
		return api.ErrText
	}
	if !r.hasWhatGoes(c) {
		return api.ErrUnknown
	}
	if r.box.Open() >= api.MaxOpen {
		return api.ErrFull
	}
	e := r.log.Do(r.me, c)
	for to := range r.replicas {
		if to != r.me {
			r.box.Put(to, e)
		}
	}
	return api.OK
}

// hasWhatGoes is true for a command by which nothing goes.
func (r *Replica) hasWhatGoes(c commands.Command) bool {
	switch c.Kind {
	case commands.Remove:
		return cart.Of(r.log.All()).HasItem(c.Word)
	case commands.Revoke:
		return cart.Of(r.log.All()).HasCoupon(c.Word)
	}
	return true
}

// Known tells the commands that the replica knows (P6).
func (r *Replica) Known() []api.Op {
	r.lock.Lock()
	defer r.lock.Unlock()
	return r.log.Ops()
}

// View tells the cart (P7).
func (r *Replica) View() string {
	r.lock.Lock()
	defer r.lock.Unlock()
	return cart.Of(r.log.All()).Text()
}

// Tick lets time go by (P8).
func (r *Replica) Tick() {
	r.lock.Lock()
	defer r.lock.Unlock()
	r.box.Tick()
}

// Frames tells what is to be sent (P8).
func (r *Replica) Frames() []api.Frame {
	r.lock.Lock()
	defer r.lock.Unlock()
	var frames []api.Frame
	for _, mail := range r.box.Take() {
		letter := wire.Letter{From: r.me, To: mail.To, Heard: r.log.Reach().Of[mail.To], Entries: mail.Entries}
		for _, data := range wire.Write(letter) {
			frames = append(frames, api.Frame{To: mail.To, Data: data})
		}
	}
	return frames
}

// Receive takes a frame (P8, P9).
func (r *Replica) Receive(from int, data []byte) {
	r.lock.Lock()
	defer r.lock.Unlock()
	letter, ok := wire.Read(data)
	if !ok || !r.isMine(letter, from) {
		return
	}
	r.box.Known(from, letter.Heard)
	for _, e := range letter.Entries {
		r.log.Learn(e)
	}
	// An answer to an answer would never end.
	if len(letter.Entries) > 0 {
		r.box.Owe(from)
	}
}

// isMine is false for a letter that no other replica can have written to this one: it would be between others, or tell of commands that were never done here.
func (r *Replica) isMine(letter wire.Letter, from int) bool {
	return letter.From == from && from != r.me && from < r.replicas &&
		letter.To == r.me && letter.Heard <= r.log.Reach().Of[r.me]
}
