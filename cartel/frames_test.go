package cartel_test

import (
	"bytes"
	"encoding/binary"
	"fmt"
	"hash/crc32"
	"math"
	"math/rand"
	"reflect"
	"slices"
	"sync"
	"testing"

	"cartel/api"
	"cartel/cartel"
	"cartel/commands"
	"cartel/history"
	"cartel/wire"
)

// eachNumber runs a test with each number of replicas.
func eachNumber(t *testing.T, test func(t *testing.T, n int)) {
	for n := api.MinReplicas; n <= api.MaxReplicas; n++ {
		t.Run(fmt.Sprint(n), func(t *testing.T) { test(t, n) })
	}
}

// P12, and the document's examples

func TestAddWins(t *testing.T) {
	eachNumber(t, func(t *testing.T, n int) {
		w := newNet(t, 1, n)
		w.do(n-1, "add tea 1", "apply half")
		w.wantAll("item tea 1\ncoupon half\n")
		w.do(0, "remove tea", "revoke half")
		w.do(n-1, "add tea 2", "apply half")
		w.wantAll("item tea 2\ncoupon half\n")
		w.do(0, "remove tea", "revoke half")
		w.wantAll("")
	})
}

func TestNotes(t *testing.T) {
	eachNumber(t, func(t *testing.T, n int) {
		w := newNet(t, 1, n)
		w.do(0, "note a")
		w.do(n-1, "note b")
		w.wantAll("note a\nnote b\n")
		w.do(1, "note c")
		w.wantAll("note c\n")
	})
}

func TestRemoveOfAnothersItem(t *testing.T) {
	w := newNet(t, 1, 2)
	w.do(0, "add tea 2", "apply half")
	fail(t, w.replicas[1], api.ErrUnknown, "remove tea", "revoke half")
	w.settle()
	w.do(1, "remove tea", "revoke half")
	fail(t, w.replicas[1], api.ErrUnknown, "remove tea", "revoke half")
	do(t, w.replicas[0], api.OK, "remove tea", "revoke half") // it has not heard
}

func TestTotalOfAll(t *testing.T) {
	w := newNet(t, 1, 5)
	for i := range 5 {
		for range 2 {
			w.do(i, "add tea 99")
		}
	}
	w.wantAll("item tea 990\n")
	w.do(2, "add tea 9")
	w.wantAll("item tea 999\n")
	w.do(3, "add tea 1")
	w.wantAll("item tea 999\n")
	w.do(0, "remove tea")
	w.do(4, "add tea 1")
	w.wantAll("item tea 1\n")
}

// P10

func TestNinthIsFull(t *testing.T) {
	eachNumber(t, func(t *testing.T, n int) {
		w := newNet(t, 1, n)
		for i := range n {
			for range 8 {
				w.do(i, "add tea 1")
			}
		}
		for range 100 {
			w.turn(everything)
		}
		for _, r := range w.replicas {
			fail(t, r, api.ErrFull, "add tea 1", "note a", "remove tea")
		}
	})
}

// TestFullBecauseOfOne: one replica is cut off; the others' answers are not enough.
func TestFullBecauseOfOne(t *testing.T) {
	for n := 3; n <= 5; n++ {
		for off := range n {
			w := newNet(t, int64(n), n)
			i := (off + 1) % n
			for k := range 8 {
				w.do(i, fmt.Sprintf("add tea %d", k+1))
				w.turn(between(off))
			}
			for range 20 {
				w.turn(between(off))
			}
			fail(t, w.replicas[i], api.ErrFull, "note a")
			if len(w.known[(off+2)%n]) != 8 || len(w.known[off]) != 0 {
				t.Errorf("P8: known are %v", w.known)
			}
			w.settle()
			w.wantRoom()
		}
	}
}

// TestRoomAsOneHears: each command that all are known to know makes room for one more.
func TestRoomAsOneHears(t *testing.T) {
	eachNumber(t, func(t *testing.T, n int) {
		w := newNet(t, 1, n)
		for k := 1; k <= 8; k++ {
			for range k {
				w.do(0, "add tea 1")
			}
			w.settle()
			w.turn(nothing)
			w.turn(nothing)
		}
		for range 8 {
			w.do(0, "add tea 1")
		}
		fail(t, w.replicas[0], api.ErrFull, "add tea 1")
	})
}

// TestRoomThoughAnswersWereLost: all frames to the replica that did the commands are lost, till just two rounds are left.
func TestRoomThoughAnswersWereLost(t *testing.T) {
	eachNumber(t, func(t *testing.T, n int) {
		for lost := range 12 {
			w := newNet(t, int64(lost), n)
			for range 8 {
				w.do(0, "add tea 1")
			}
			answers := func(f flight) bool { return f.to == 0 }
			for range 1 + lost {
				w.turn(answers)
			}
			if !w.allKnown() {
				t.Fatalf("P8: not all know all: %v", w.known)
			}
			fail(t, w.replicas[0], api.ErrFull, "add tea 1")
			w.wantRoom()
		}
	})
}

// TestRoomWhateverWasBefore: ticks, frames that were asked for and lost, in whatever order, then two rounds.
func TestRoomWhateverWasBefore(t *testing.T) {
	for seed := range int64(200) {
		n := 2 + int(seed)%4
		w := newNet(t, seed, n)
		for i := range n {
			for range w.rand.Intn(9) {
				w.do(i, "add tea 1")
			}
		}
		w.settle()
		for range w.rand.Intn(20) {
			r := w.replicas[w.rand.Intn(n)]
			if w.rand.Intn(2) == 0 {
				r.Tick()
			} else {
				r.Frames()
			}
		}
		w.wantRoom()
		w.settle()
		w.wantRoom()
	}
}

// P11

// TestLongestWay: a replica that heard nothing, commands that are each ahead of the next, and in each round the worst order.
func TestLongestWay(t *testing.T) {
	for n := 3; n <= 5; n++ {
		w := newNet(t, 1, n)
		deaf := n - 1
		for range 8 {
			for i := range deaf {
				w.do(i, "add tea 1")
				for len(w.known[(i+1)%deaf]) < len(w.done) {
					w.turn(between(deaf))
				}
			}
		}
		rounds := 0
		for ; len(w.known[deaf]) < len(w.done); rounds++ {
			if rounds == 60 {
				t.Fatalf("P11: %v", w.known[deaf])
			}
			for _, r := range w.replicas {
				r.Tick()
			}
			for i := range n {
				w.send(i)
			}
			for len(w.air) > 0 {
				w.receive(w.air[len(w.air)-1])
				w.air = w.air[:len(w.air)-1]
			}
			w.checkAll()
		}
		t.Logf("%d replicas: %d rounds", n, rounds)
		w.settle()
	}
}

// P8

// TestDrawn: frames are lost, doubled, overtaken, spoilt and late, while commands are done.
func TestDrawn(t *testing.T) {
	for seed := range int64(150) {
		n := 2 + int(seed)%4
		w := newNet(t, seed, n)
		loss := w.rand.Intn(3)
		for range 2 {
			for range 150 {
				w.step(w.rand.Intn(n), loss)
			}
			w.settle()
			w.wantRoom()
			w.settle()
			for range 2 {
				w.turn(nothing)
			}
		}
		for _, f := range w.air { // late
			w.receive(f)
		}
		w.checkAll()
	}
}

func (w *net) step(i, loss int) {
	w.t.Helper()
	switch w.rand.Intn(8 + loss) {
	case 0:
		w.replicas[i].Tick()
	case 1, 2:
		w.send(i)
	case 3, 4: // comes, and may come again
		if len(w.air) > 0 {
			w.receive(w.air[w.rand.Intn(len(w.air))])
		}
	case 5:
		if len(w.air) > 0 {
			k := w.rand.Intn(len(w.air))
			w.receive(w.air[k])
			w.air = slices.Delete(w.air, k, k+1)
		}
	case 6, 7:
		w.tryToDo(i)
	default: // is lost, or comes spoilt
		if len(w.air) > 0 {
			k := w.rand.Intn(len(w.air))
			w.receiveSpoilt(w.air[k])
			w.air = slices.Delete(w.air, k, k+1)
		}
	}
	w.checkAll()
}

// tryToDo does a command, if the replica has room, which it must not have when eight of its commands are not known elsewhere.
func (w *net) tryToDo(i int) {
	w.t.Helper()
	texts := []string{"add tea 1", "add milk 2", "remove tea", "remove milk", "apply half", "revoke half", "note a", "note b"}
	text := texts[w.rand.Intn(len(texts))]
	missed := 0
	for j := range w.replicas {
		missed = max(missed, w.count[i]-w.knownOf(i, j))
	}
	e := w.replicas[i].Do(text)
	if e == api.OK {
		if op := w.noteDone(i, text); missed >= 8 {
			w.t.Fatalf("P10: %v is done, and %d are not known elsewhere", op, missed)
		}
	} else if e != api.ErrFull && e != api.ErrUnknown {
		w.t.Fatalf("Do(%q) = %d", text, e)
	}
}

// knownOf is how many commands of i are known at j.
func (w *net) knownOf(i, j int) int {
	n := 0
	for _, op := range w.known[j] {
		if op.Origin == i {
			n++
		}
	}
	return n
}

func TestFramesAreToldOnce(t *testing.T) {
	eachNumber(t, func(t *testing.T, n int) {
		w := newNet(t, 1, n)
		w.do(0, "add tea 1")
		for range 3 {
			w.replicas[0].Tick()
			if got := len(w.replicas[0].Frames()); got != n-1 {
				t.Errorf("%d frames, want one to each other replica", got)
			}
			if more := w.replicas[0].Frames(); len(more) != 0 {
				t.Errorf("told twice: %v", more)
			}
		}
		w.settle()
		w.turn(nothing)
		w.turn(nothing)
		w.send(0)
		if len(w.air) != 0 {
			t.Errorf("there is nothing more to tell: %v", w.air)
		}
	})
}

func TestOnlyReceiveMakesKnown(t *testing.T) {
	w := newNet(t, 1, 3)
	w.do(0, "add tea 1")
	w.do(1, "note a")
	for range 50 {
		for _, r := range w.replicas {
			r.Tick()
			r.Frames()
			r.View()
			r.Known()
		}
	}
	wantKnown(t, w.replicas[0], ops(0, "add tea 1"))
	wantKnown(t, w.replicas[1], ops(1, "note a"))
	wantKnown(t, w.replicas[2], nil)
}

// TestFromNobody: a frame that is said to come from here, or from no replica, changes nothing: neither what is known, nor what is told.
func TestFromNobody(t *testing.T) {
	eachNumber(t, func(t *testing.T, n int) {
		w := newNet(t, 1, n)
		w.do(0, "add tea 1")
		w.do(1, "note a")
		w.settle()
		w.turn(nothing)
		w.turn(nothing)
		for i := range n {
			for range 8 {
				w.do(i, "add tea 1")
			}
			w.send(i)
		}
		for _, f := range w.air {
			for _, from := range []int{f.to, -1, n, n + 1, 5, 256, 256 + f.from, f.from - 256, math.MaxInt, math.MinInt} {
				w.replicas[f.to].Receive(from, f.data)
			}
		}
		for i, r := range w.replicas {
			wantKnown(t, r, w.known[i])
			if told := r.Frames(); len(told) != 0 {
				t.Errorf("%d has an answer to nobody: %v", i, told)
			}
			fail(t, r, api.ErrFull, "note a")
		}
	})
}

// TestFromBeyond: a replica of a greater net is none of the others here.
func TestFromBeyond(t *testing.T) {
	w := newNet(t, 1, 5)
	w.do(4, "add tea 1")
	w.send(4)
	for _, f := range w.air {
		for n := max(2, f.to+1); n <= 4; n++ {
			r := begin(t, f.to, n)
			r.Receive(4, f.data)
			wantKnown(t, r, nil)
			if told := r.Frames(); len(told) != 0 {
				t.Errorf("an answer to nobody: %v", told)
			}
		}
	}
}

// TestWhatNobodyTells: letters that no other replica writes to this one.
func TestWhatNobodyTells(t *testing.T) {
	note := history.Entry{Origin: 0, Seq: 1, Command: commands.Command{Kind: commands.Note, Word: "a"}}
	entries := []history.Entry{note}
	for _, l := range []wire.Letter{
		{From: 1, To: 1, Entries: entries},
		{From: 0, To: 2, Entries: entries},
		{From: 0, To: 1, Heard: 9, Entries: entries},
	} {
		r := begin(t, 1, 3)
		do(t, r, api.OK, slices.Repeat([]string{"add tea 1"}, 8)...)
		r.Frames()
		known := r.Known()
		r.Receive(l.From, wire.Write(l)[0])
		wantKnown(t, r, known)
		if told := r.Frames(); len(told) != 0 {
			t.Errorf("an answer to %v: %v", l, told)
		}
		fail(t, r, api.ErrFull, "note a")
	}
}

// TestCausal: a frame of another replica does not make known what is behind a command that is not known.
func TestCausal(t *testing.T) {
	w := newNet(t, 1, 3)
	w.do(0, "add tea 1")
	w.turn(between(2))
	w.do(1, "remove tea")
	for range 10 {
		w.turn(func(f flight) bool { return f.from == 0 || f.to == 0 })
	}
	wantKnown(t, w.replicas[2], nil)
	w.settle()
	wantKnown(t, w.replicas[2], []api.Op{{Origin: 0, Seq: 1, Text: "add tea 1"}, {Origin: 1, Seq: 1, Text: "remove tea"}})
}

// TestManyLongCommands: frames keep to their bounds when numbers have grown and words are long.
func TestManyLongCommands(t *testing.T) {
	w := newNet(t, 1, 5)
	for range 20 {
		for i := range 5 {
			for range 8 {
				w.do(i, "add abcdefgh 99")
			}
		}
		w.settle()
		w.turn(nothing)
		w.turn(nothing)
	}
	wantView(t, w.replicas[3], "item abcdefgh 999\n")
}

// P1

// TestAnyBytes: bytes that are nearly frames, and bytes that are not, from all sides; some have the length and the sum that belong to them, though no replica wrote them.
func TestAnyBytes(t *testing.T) {
	for seed := range int64(40) {
		n := 2 + int(seed)%4
		w := newNet(t, seed, n)
		for i := range n {
			w.do(i, "add tea 1", "note a")
			w.send(i)
		}
		for range 500 {
			f := w.air[w.rand.Intn(len(w.air))]
			if again := resealed(f.data); !bytes.Equal(again, f.data) {
				t.Fatalf("the frame %v should end as %v", f.data, again)
			}
			f.data = bent(w.rand, f.data)
			if w.rand.Intn(2) == 0 {
				f.data = resealed(f.data)
			}
			r := w.replicas[f.to]
			r.Receive(f.from, f.data)
			r.Receive(w.rand.Intn(n), f.data)
			r.Tick()
			r.Frames()
			r.Do("note b")
			r.View()
			r.Known()
		}
	}
}

// resealed is the data, its first byte and its last four such as a frame of this length has them.
func resealed(data []byte) []byte {
	b := bytes.Clone(data)
	if len(b) < 5 {
		return b
	}
	b[0] = byte(len(b))
	return binary.LittleEndian.AppendUint32(b[:len(b)-4], crc32.ChecksumIEEE(b[:len(b)-4]))
}

// bent is the data with some bytes changed, cut off or added.
func bent(r *rand.Rand, data []byte) []byte {
	b := bytes.Clone(data)
	for range r.Intn(4) {
		if len(b) > 0 {
			b[r.Intn(len(b))] = byte(r.Intn(256))
		}
	}
	if r.Intn(3) == 0 {
		b = b[:r.Intn(len(b)+1)]
	}
	for range r.Intn(3) * r.Intn(120) {
		b = append(b, byte(r.Intn(256)))
	}
	return b
}

// P2

// TestFramesAreTheCallers: what the caller writes into a frame, and behind it, is to be seen nowhere else.
func TestFramesAreTheCallers(t *testing.T) {
	r, twin := begin(t, 0, 3), begin(t, 0, 3)
	for _, x := range []*cartel.Replica{r, twin} {
		for range 8 {
			do(t, x, api.OK, "add abcdefgh 99")
		}
	}
	for range 3 {
		r.Tick()
		twin.Tick()
		frames, want := r.Frames(), twin.Frames()
		for i := range frames {
			if !bytes.Equal(frames[i].Data, want[i].Data) {
				t.Errorf("the frame %d is %v, want %v", i, frames[i].Data, want[i].Data)
			}
			overwrite(frames[i].Data)
		}
		clear(frames[:cap(frames)])
	}
	wantKnown(t, r, twin.Known())
	wantView(t, r, twin.View())
}

// overwrite writes over the bytes and their spare room.
func overwrite(data []byte) {
	data = data[:cap(data)]
	for i := range data {
		data[i] = 'x'
	}
}

func TestDataIsTheCallers(t *testing.T) {
	w := newNet(t, 1, 2)
	w.do(0, "add tea 7", "note abc")
	w.send(0)
	for _, f := range w.air {
		data := append(bytes.Clone(f.data), "spare room"...)
		want := bytes.Clone(data)
		w.replicas[1].Receive(0, data[:len(f.data)])
		if !bytes.Equal(data, want) {
			t.Errorf("Receive wrote %v over %v", data, want)
		}
		overwrite(data)
	}
	wantKnown(t, w.replicas[1], ops(0, "add tea 7", "note abc"))
	wantView(t, w.replicas[1], "item tea 7\nnote abc\n")
	w.check(1)
	w.wantRoom()
}

// TestSameCallsSameAnswers: what a replica answers hangs on its own calls alone.
func TestSameCallsSameAnswers(t *testing.T) {
	for seed := range int64(20) {
		n := 2 + int(seed)%4
		w := newNet(t, seed, n)
		me := w.rand.Intn(n)
		twin := begin(t, me, n)
		for range 300 {
			i := w.rand.Intn(n)
			text := fmt.Sprintf("add tea %d", 1+w.rand.Intn(99))
			if e := w.replicas[i].Do(text); i == me && twin.Do(text) != e {
				t.Fatalf("Do(%q) differs", text)
			}
			w.replicas[i].Tick()
			told := w.replicas[i].Frames()
			if i == me {
				twin.Tick()
				if again := twin.Frames(); !reflect.DeepEqual(again, told) {
					t.Fatalf("Frames differ: %v, %v", told, again)
				}
			}
			for _, f := range told {
				if w.rand.Intn(3) == 0 {
					continue
				}
				w.replicas[f.To].Receive(i, f.Data)
				if f.To == me {
					twin.Receive(i, f.Data)
				}
			}
		}
		wantKnown(t, twin, w.replicas[me].Known())
		wantView(t, twin, w.replicas[me].View())
	}
}

// Ways

// TestNetOfGoroutines: all calls of all replicas at the same time.
func TestNetOfGoroutines(t *testing.T) {
	var replicas []*cartel.Replica
	for i := range 4 {
		replicas = append(replicas, begin(t, i, 4))
	}
	var wait sync.WaitGroup
	for i, r := range replicas {
		for range 3 {
			wait.Go(func() {
				for k := range 200 {
					if k%20 == 0 {
						r.Do("add tea 1")
					}
					r.Tick()
					for _, f := range r.Frames() {
						replicas[f.To].Receive(i, f.Data)
					}
					r.Known()
					r.View()
				}
			})
		}
	}
	wait.Wait()
	w := &net{t: t, replicas: replicas}
	w.carry(60)
	for _, r := range replicas {
		if len(r.Known()) != len(replicas[0].Known()) || r.View() != replicas[0].View() {
			t.Errorf("%v and %v", r.Known(), replicas[0].Known())
		}
	}
}
