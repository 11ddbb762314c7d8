package cartel_test

import (
	"bytes"
	"fmt"
	"iter"
	"math/rand"
	"reflect"
	"slices"
	"testing"

	"cartel/api"
	"cartel/cartel"
)

// P9

// spoils goes through ways to spoil the data, with what was done to it: all changes of one byte, all cuts, and bytes behind it, such as are frames among them. The bytes are overwritten at each step.
func spoils(data []byte, frames [][]byte) iter.Seq2[string, []byte] {
	return func(yield func(string, []byte) bool) {
		b := bytes.Clone(data)
		for i, was := range data {
			for x := 1; x < 256; x++ {
				b[i] = was ^ byte(x)
				if !yield(fmt.Sprintf("byte %d is %d instead of %d", i, b[i], was), b) {
					return
				}
			}
			b[i] = was
			if !yield(fmt.Sprintf("cut off at %d", i), b[:i]) {
				return
			}
		}
		for _, more := range tails(frames) {
			if !yield(fmt.Sprintf("%v behind", more), append(b, more...)) {
				return
			}
		}
	}
}

// tails has what may stand behind a frame: any one byte, many of one kind (256 among them, and what makes MaxFrame full), frames, and pieces of them.
func tails(frames [][]byte) [][]byte {
	var all [][]byte
	for x := range 256 {
		all = append(all, []byte{byte(x)})
	}
	for n := 1; n <= 520; n++ {
		all = append(all, make([]byte, n), bytes.Repeat([]byte{255}, n))
	}
	for _, f := range frames {
		for n := range f {
			all = append(all, f[n:], f[:n+1])
		}
		all = append(all, slices.Concat(f, f), slices.Concat(f, f, f))
	}
	return all
}

// scene is a replica, and frames that another one has told for it.
type scene struct {
	replica *cartel.Replica
	from    int
	frames  [][]byte
	fails   api.Errno // what the replica answers to text, before and behind each spoilt frame
	text    string
}

// newcomer knows nothing, and is told of some commands.
func newcomer(t *testing.T) scene {
	w := newNet(t, 1, 2)
	w.do(0, "add tea 7", "note abcdefgh")
	return w.scene(0, 1, api.ErrUnknown, "remove tea")
}

// allOpen knows nothing, and is told of as many commands as may be open, in long words.
func allOpen(t *testing.T) scene {
	w := newNet(t, 1, 5)
	for range 8 {
		w.do(3, "add abcdefgh 99")
	}
	return w.scene(3, 2, api.ErrUnknown, "remove abcdefgh")
}

// fullNet has a replica without room, as it was not answered; the other one knows all its commands.
func fullNet(t *testing.T) *net {
	w := newNet(t, 1, 2)
	for range 8 {
		w.do(0, "add tea 1")
	}
	w.turn(func(f flight) bool { return f.to == 0 })
	return w
}

// fullOne is answered by frames without a command: it would have room.
func fullOne(t *testing.T) scene {
	return fullNet(t).scene(1, 0, api.ErrFull, "note a")
}

// fullOneIsTold is answered, and told of a command in the same frame.
func fullOneIsTold(t *testing.T) scene {
	w := fullNet(t)
	w.do(1, "remove tea")
	return w.scene(1, 0, api.ErrFull, "note a")
}

// toldBefore is told again what it knows and has answered: by the frame alone it would have an answer to send.
func toldBefore(t *testing.T) scene {
	w := newNet(t, 1, 3)
	w.do(1, "add tea 1", "note a")
	w.turn(func(f flight) bool { return f.to == 1 })
	w.turn(func(f flight) bool { return f.to == 1 })
	w.replicas[2].Frames()
	s := w.scene(1, 2, api.ErrUnknown, "remove milk")
	wantKnown(t, s.replica, ops(1, "add tea 1", "note a"))
	return s
}

// grown has heard so much that what it is told next has no room in one frame.
func grown(t *testing.T) scene {
	w := newNet(t, 1, 5)
	for range 17 {
		for i := range 5 {
			do(t, w.replicas[i], api.OK, slices.Repeat([]string{"add abcdefgh 99"}, 8)...)
		}
		w.carry(4)
	}
	do(t, w.replicas[3], api.OK, slices.Repeat([]string{"apply abcdefgh"}, 8)...)
	s := w.scene(3, 2, api.ErrUnknown, "revoke abcdefgh")
	if len(s.frames) < 2 {
		t.Fatalf("%d frames", len(s.frames))
	}
	return s
}

// carry has so many rounds in which each frame comes once.
func (w *net) carry(rounds int) {
	w.t.Helper()
	for range rounds {
		for i, r := range w.replicas {
			r.Tick()
			w.send(i)
		}
		for _, f := range w.air {
			w.receive(f)
		}
		w.air = nil
	}
}

// scene lets one replica tell another one. The frames are not received.
func (w *net) scene(from, to int, fails api.Errno, text string) scene {
	w.t.Helper()
	w.replicas[from].Tick()
	w.send(from)
	w.lose(func(f flight) bool { return f.to != to })
	if len(w.air) == 0 {
		w.t.Fatalf("P8: nothing is sent")
	}
	s := scene{replica: w.replicas[to], from: from, fails: fails, text: text}
	for _, f := range w.air {
		s.frames = append(s.frames, f.data)
	}
	return s
}

// TestSpoilt: a replica that gets frames which were spoilt stays like its twin, which gets none; the frames as they were sent do make a difference.
func TestSpoilt(t *testing.T) {
	for name, make := range map[string]func(*testing.T) scene{
		"newcomer": newcomer, "all open": allOpen, "full one": fullOne, "full one is told": fullOneIsTold, "told before": toldBefore,
	} {
		t.Run(name, func(t *testing.T) {
			s, twin := make(t), make(t)
			known, view := twin.replica.Known(), twin.replica.View()
			for _, frame := range s.frames {
				for what, data := range spoils(frame, s.frames) {
					s.replica.Receive(s.from, data)
					if !slices.Equal(s.replica.Known(), known) || s.replica.View() != view {
						t.Fatalf("P9: %v: %s: known is %v", frame, what, s.replica.Known())
					}
					if e := s.replica.Do(s.text); e != s.fails {
						t.Fatalf("P9: %v: %s: Do(%q) = %d, want %d", frame, what, s.text, e, s.fails)
					}
					if !reflect.DeepEqual(s.replica, twin.replica) {
						t.Fatalf("P9: %v: %s: something has changed", frame, what)
					}
				}
			}
			for _, frame := range s.frames {
				s.replica.Receive(s.from, frame)
			}
			if reflect.DeepEqual(s.replica, twin.replica) {
				t.Errorf("P8: nothing changes by frames that were not spoilt")
			}
		})
	}
}

// TestSpoiltHasNoAnswer: what a replica tells the others stays as it was, too.
func TestSpoiltHasNoAnswer(t *testing.T) {
	for _, make := range []func(*testing.T) scene{newcomer, allOpen, fullOne, fullOneIsTold, toldBefore, grown} {
		s, twin := make(t), make(t)
		draw := rand.New(rand.NewSource(1))
		for range 50 {
			for range 100 {
				s.replica.Receive(s.from, spoilt(draw, s.frames[draw.Intn(len(s.frames))]))
			}
			if told, want := s.replica.Frames(), twin.replica.Frames(); !reflect.DeepEqual(told, want) {
				t.Fatalf("P9: told is %v, want %v", told, want)
			}
			do(t, s.replica, s.fails, s.text)
			s.replica.Tick()
			twin.replica.Tick()
		}
		wantKnown(t, s.replica, twin.replica.Known())
		wantView(t, s.replica, twin.replica.View())
	}
}

// spoilt is the data, spoilt in one way of those that the document names.
func spoilt(r *rand.Rand, data []byte) []byte {
	b := bytes.Clone(data)
	switch r.Intn(4) {
	case 0:
		return b[:r.Intn(len(b))]
	case 1:
		return append(b, b[:1+r.Intn(len(b))]...)
	case 2:
		return append(b, make([]byte, 1+r.Intn(300))...)
	}
	b[r.Intn(len(b))] ^= byte(1 + r.Intn(255))
	return b
}

// receiveSpoilt has a frame come after it was spoilt.
func (w *net) receiveSpoilt(f flight) {
	w.t.Helper()
	r := w.replicas[f.to]
	known, view := r.Known(), r.View()
	data := spoilt(w.rand, f.data)
	r.Receive(f.from, data)
	if !slices.Equal(r.Known(), known) || r.View() != view {
		w.t.Fatalf("P9: by %v instead of %v, known is %v", data, f.data, r.Known())
	}
}

// TestAllSpoilt: nothing comes as it was sent, for a long time; then all come to know all, and have room.
func TestAllSpoilt(t *testing.T) {
	for seed := range int64(20) {
		n := 2 + int(seed)%4
		w := newNet(t, seed, n)
		for i := range n {
			for range 8 {
				w.do(i, fmt.Sprintf("add tea %d", 1+w.rand.Intn(99)))
			}
		}
		for range 30 {
			for i, r := range w.replicas {
				r.Tick()
				w.send(i)
			}
			for _, f := range w.air {
				w.receiveSpoilt(f)
			}
			w.air = nil
		}
		for i, r := range w.replicas {
			if len(w.known[i]) != 8 {
				t.Errorf("P9: at %d known is %v", i, w.known[i])
			}
			fail(t, r, api.ErrFull, "note a")
		}
		w.settle()
		w.wantRoom()
	}
}
