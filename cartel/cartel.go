// Package cartel: one shopping cart that several replicas keep: see DOC.md.
package cartel

import (
	"sync"

	"cartel/api"
	"cartel/cart"
	"cartel/commands"
	"cartel/history"
)

// Replica is one of those that keep the cart.
type Replica struct {
	lock sync.Mutex // held by each call while it is at work
	me   int
	log  history.Log
}

// New makes a replica (P3).
func New(me int, replicas int) (*Replica, api.Errno) {
	if replicas < api.MinReplicas || replicas > api.MaxReplicas || me < 0 || me >= replicas {
		return nil, api.ErrArg
	}
	return &Replica{me: me}, api.OK
}

// Do carries out a command (P4, P5).
func (r *Replica) Do(command string) api.Errno {
	r.lock.Lock()
	defer r.lock.Unlock()
	c, ok := commands.Parse(command)
	if !ok {
		return api.ErrText
	}
	if !r.hasWhatGoes(c) {
		return api.ErrUnknown
	}
	if r.open() >= api.MaxOpen {
		return api.ErrFull
	}
	r.log.Do(r.me, c)
	return api.OK
}

// hasWhatGoes is true for a command by which nothing goes.
func (r *Replica) hasWhatGoes(c commands.Command) bool {
	switch c.Kind {
	case commands.Remove:
		return cart.Of(r.log.All()).HasItem(c.Word)
	case commands.Revoke:
		return cart.Of(r.log.All()).HasCoupon(c.Word)
	}
	return true
}

// open is how many of the commands done here some other replica may not know yet. As no frame tells of the others, that is all of them.
func (r *Replica) open() int {
	return r.log.Reach().Of[r.me]
}

// Known tells the commands that the replica knows (P6).
func (r *Replica) Known() []api.Op {
	r.lock.Lock()
	defer r.lock.Unlock()
	return r.log.Ops()
}

// View tells the cart (P7).
func (r *Replica) View() string {
	r.lock.Lock()
	defer r.lock.Unlock()
	return cart.Of(r.log.All()).Text()
}

// Tick lets time go by (P8).
func (r *Replica) Tick() {}

// Frames tells what is to be sent (P8).
func (r *Replica) Frames() []api.Frame { return nil }

// Receive takes a frame (P8).
func (r *Replica) Receive(from int, data []byte) {}
