package cartel_test

import (
	"bytes"
	"fmt"
	"maps"
	"math/rand"
	"slices"
	"strings"
	"testing"

	"cartel/api"
	"cartel/cartel"
)

// flight is a frame on its way.
type flight struct {
	from, to int
	data     []byte
}

// net has replicas, the frames between them, and what the document says of all that was done.
type net struct {
	t        *testing.T
	rand     *rand.Rand
	replicas []*cartel.Replica
	air      []flight
	done     map[api.Op]set // with what is ahead of each
	count    []int          // how many were done at each replica
	known    [][]api.Op     // as each replica last told it
	has      []set          // the same
}

type set map[api.Op]struct{}

func (s set) has(op api.Op) bool {
	_, ok := s[op]
	return ok
}

func newNet(t *testing.T, seed int64, n int) *net {
	t.Helper()
	w := &net{t: t, rand: rand.New(rand.NewSource(seed)), done: map[api.Op]set{}, count: make([]int, n), known: make([][]api.Op, n)}
	for i := range n {
		w.replicas = append(w.replicas, begin(t, i, n))
		w.has = append(w.has, set{})
	}
	return w
}

// noteDone remembers that the text was done at a replica as its next command.
func (w *net) noteDone(i int, text string) api.Op {
	w.count[i]++
	op := api.Op{Origin: i, Seq: w.count[i], Text: text}
	w.done[op] = maps.Clone(w.has[i])
	return op
}

// do does the texts at a replica, and asks for P5 with each.
func (w *net) do(i int, texts ...string) {
	w.t.Helper()
	for _, text := range texts {
		w.check(i)
		do(w.t, w.replicas[i], api.OK, text)
		want := append(slices.Clone(w.known[i]), w.noteDone(i, text))
		wantKnown(w.t, w.replicas[i], want)
		w.check(i)
	}
}

// check asks for P6 and P7 at a replica.
func (w *net) check(i int) {
	w.t.Helper()
	list, was := w.replicas[i].Known(), w.known[i]
	if len(list) < len(was) || !slices.Equal(list[:len(was)], was) {
		w.t.Fatalf("P6: Known of %d was %v and is %v", i, was, list)
	}
	for _, op := range list[len(was):] {
		ahead, ok := w.done[op]
		if !ok || w.has[i].has(op) {
			w.t.Fatalf("P6: at %d: %v was not done, or stands twice", i, op)
		}
		for other := range ahead {
			if !w.has[i].has(other) {
				w.t.Fatalf("P6: at %d: %v stands ahead of %v", i, op, other)
			}
		}
		w.has[i][op] = struct{}{}
	}
	w.known[i] = list
	if len(list) > len(was) {
		wantView(w.t, w.replicas[i], w.cart(list))
	}
}

func (w *net) checkAll() {
	w.t.Helper()
	for i := range w.replicas {
		w.check(i)
	}
}

// cart is the cart of some commands by the words of the document.
func (w *net) cart(ops []api.Op) string {
	ends := map[string][]api.Op{}
	for _, op := range ops {
		ends[end(op)] = append(ends[end(op)], op)
	}
	goes := func(op api.Op, by string) bool {
		return slices.ContainsFunc(ends[by], func(later api.Op) bool { return w.done[later].has(op) })
	}
	items := map[string]int{}
	var lines []string
	for _, op := range ops {
		switch {
		case verb(op) == "add" && !goes(op, "remove "+word(op)):
			items[word(op)] += count(op)
		case verb(op) == "apply" && !goes(op, "revoke "+word(op)):
			lines = append(lines, "coupon "+word(op)+"\n")
		case verb(op) == "note" && !goes(op, "note"):
			lines = append(lines, "note "+word(op)+"\n")
		}
	}
	for word, n := range items {
		lines = append(lines, fmt.Sprintf("item %s %d\n", word, min(n, 999)))
	}
	kind := func(line string) int { return strings.Index("icn", line[:1]) }
	slices.SortFunc(lines, func(a, b string) int {
		if kind(a) != kind(b) {
			return kind(a) - kind(b)
		}
		return strings.Compare(strings.Fields(a)[1], strings.Fields(b)[1])
	})
	return strings.Join(slices.Compact(lines), "")
}

// end is what takes another command's thing out of the cart: a text, or note for whatever note.
func end(op api.Op) string {
	if verb(op) == "note" {
		return "note"
	}
	return op.Text
}

func verb(op api.Op) string { return strings.Fields(op.Text)[0] }
func word(op api.Op) string { return strings.Fields(op.Text)[1] }

func count(op api.Op) int {
	n := 0
	fmt.Sscan(strings.Fields(op.Text)[2], &n)
	return n
}

// send puts the frames of a replica on their way, and asks for P8 of each.
func (w *net) send(i int) {
	w.t.Helper()
	for _, f := range w.replicas[i].Frames() {
		if f.To < 0 || f.To >= len(w.replicas) || f.To == i || len(f.Data) < 1 || len(f.Data) > 200 {
			w.t.Fatalf("P8: the frame %v of %d", f, i)
		}
		w.air = append(w.air, flight{i, f.To, bytes.Clone(f.Data)})
	}
}

func (w *net) receive(f flight) {
	w.replicas[f.to].Receive(f.from, bytes.Clone(f.data))
}

// lose takes out of the air what is chosen.
func (w *net) lose(chosen func(flight) bool) {
	w.air = slices.DeleteFunc(w.air, chosen)
}

// spoil lets what is chosen come, some of it, but spoilt. It stays in the air.
func (w *net) spoil(chosen func(flight) bool) {
	w.t.Helper()
	for _, f := range w.air {
		if chosen(f) && w.rand.Intn(2) == 0 {
			w.receiveSpoilt(f)
		}
	}
}

// turn is a round in which what is chosen gets lost, or comes spoilt; the rest comes in an order that is drawn, some of it more than once. What was in the air stays there.
func (w *net) turn(chosen func(flight) bool) {
	w.t.Helper()
	late := w.air
	w.air = nil
	for _, r := range w.replicas {
		r.Tick()
	}
	for i := range w.replicas {
		w.send(i)
	}
	w.spoil(chosen)
	w.lose(chosen)
	for _, f := range slices.Clone(w.air) {
		if w.rand.Intn(4) == 0 {
			w.air = append(w.air, f)
		}
	}
	w.rand.Shuffle(len(w.air), func(i, j int) { w.air[i], w.air[j] = w.air[j], w.air[i] })
	for _, f := range w.air {
		w.receive(f)
	}
	w.air = late
	w.checkAll()
}

func nothing(flight) bool    { return false }
func everything(flight) bool { return true }

// between chooses the frames from and to a replica.
func between(i int) func(flight) bool {
	return func(f flight) bool { return f.from == i || f.to == i }
}

func (w *net) allKnown() bool {
	for _, list := range w.known {
		if len(list) < len(w.done) {
			return false
		}
	}
	return true
}

// settle has rounds till all know all, and asks for P11 and P12; it tells how many rounds there were.
func (w *net) settle() int {
	w.t.Helper()
	w.checkAll()
	rounds := 0
	for !w.allKnown() {
		if rounds == 60 {
			w.t.Fatalf("P11: not all know all: %v", w.known)
		}
		w.turn(nothing)
		rounds++
	}
	for i := range w.replicas {
		if w.replicas[i].View() != w.replicas[0].View() {
			w.t.Fatalf("P12: %d has %q, 0 has %q", i, w.replicas[i].View(), w.replicas[0].View())
		}
	}
	return rounds
}

// wantAll asks that all come to know all, and then have this cart.
func (w *net) wantAll(view string) {
	w.t.Helper()
	w.settle()
	wantView(w.t, w.replicas[0], view)
}

// wantRoom asks for P10 when all is known at all replicas: two rounds, then MaxOpen more commands, and no more than these.
func (w *net) wantRoom() {
	w.t.Helper()
	w.turn(nothing)
	w.turn(nothing)
	for i := range w.replicas {
		for range 8 {
			w.do(i, "add room 1")
		}
	}
	for i, r := range w.replicas {
		fail(w.t, r, api.ErrFull, "add room 1", "note full")
		w.check(i)
	}
}
