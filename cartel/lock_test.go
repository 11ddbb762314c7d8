package cartel

import (
	"testing"
	"time"
)

// TestCallsWaitForLock: a call that is at work while another one has the lock would answer here.
func TestCallsWaitForLock(t *testing.T) {
	for name, call := range map[string]func(*Replica){
		"Do":      func(r *Replica) { r.Do("note a") },
		"Known":   func(r *Replica) { r.Known() },
		"View":    func(r *Replica) { r.View() },
		"Tick":    func(r *Replica) { r.Tick() },
		"Frames":  func(r *Replica) { r.Frames() },
		"Receive": func(r *Replica) { r.Receive(1, nil) },
	} {
		r, _ := New(0, 2)
		answered := make(chan int)
		r.lock.Lock()
		go func() {
			call(r)
			close(answered)
		}()
		select {
		case <-answered:
			t.Errorf("%s does not wait for the lock", name)
		case <-time.After(20 * time.Millisecond):
		}
		r.lock.Unlock()
		<-answered
	}
}
