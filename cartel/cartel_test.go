package cartel_test

import (
	"fmt"
	"math"
	"slices"
	"strings"
	"sync"
	"testing"

	"cartel/api"
	"cartel/cartel"
)

func begin(t *testing.T, me, replicas int) *cartel.Replica {
	t.Helper()
	r, e := cartel.New(me, replicas)
	if r == nil || e != api.OK {
		t.Fatalf("New(%d, %d) = %v, %d", me, replicas, r, e)
	}
	return r
}

func do(t *testing.T, r *cartel.Replica, want api.Errno, texts ...string) {
	t.Helper()
	for _, text := range texts {
		if got := r.Do(text); got != want {
			t.Errorf("Do(%.40q) = %d, want %d", text, got, want)
		}
	}
}

// fail asks for the error, and that nothing that can be told has changed by it.
func fail(t *testing.T, r *cartel.Replica, want api.Errno, texts ...string) {
	t.Helper()
	known, view := r.Known(), r.View()
	do(t, r, want, texts...)
	wantKnown(t, r, known)
	wantView(t, r, view)
}

func wantView(t *testing.T, r *cartel.Replica, want string) {
	t.Helper()
	if got := r.View(); got != want {
		t.Errorf("View() = %q, want %q", got, want)
	}
}

func wantKnown(t *testing.T, r *cartel.Replica, want []api.Op) {
	t.Helper()
	if got := r.Known(); !slices.Equal(got, want) {
		t.Errorf("Known() = %v, want %v", got, want)
	}
}

// ops is the texts as the first commands of the replica origin.
func ops(origin int, texts ...string) []api.Op {
	var list []api.Op
	for i, text := range texts {
		list = append(list, api.Op{Origin: origin, Seq: i + 1, Text: text})
	}
	return list
}

// P3

func TestNewBounds(t *testing.T) {
	for replicas := -3; replicas <= 9; replicas++ {
		for me := -3; me <= 9; me++ {
			r, e := cartel.New(me, replicas)
			if replicas < 2 || replicas > 5 || me < 0 || me >= replicas {
				if r != nil || e != api.ErrArg {
					t.Errorf("New(%d, %d) = %v, %d, want ErrArg", me, replicas, r, e)
				}
				continue
			}
			if r == nil || e != api.OK {
				t.Fatalf("New(%d, %d) = %v, %d", me, replicas, r, e)
			}
			wantKnown(t, r, nil)
			wantView(t, r, "")
		}
	}
}

func TestNewGreatNumbers(t *testing.T) {
	for _, c := range [][2]int{{math.MaxInt, 2}, {math.MinInt, 2}, {0, math.MaxInt}, {0, math.MinInt}, {math.MaxInt - 1, math.MaxInt}, {math.MinInt, math.MinInt}, {1 << 32, 2}, {0, 1<<32 + 2}} {
		if r, e := cartel.New(c[0], c[1]); r != nil || e != api.ErrArg {
			t.Errorf("New(%d, %d) = %v, %d, want ErrArg", c[0], c[1], r, e)
		}
	}
}

// P4, P5, P7

func TestExample(t *testing.T) {
	r := begin(t, 0, 2)
	do(t, r, api.OK, "add tea 2", "add tea 3", "add milk 1", "apply summer", "note door")
	wantView(t, r, "item milk 1\nitem tea 5\ncoupon summer\nnote door\n")
	do(t, r, api.OK, "remove tea", "note gate")
	wantView(t, r, "item milk 1\ncoupon summer\nnote gate\n")
	fail(t, r, api.ErrUnknown, "remove tea")
	fail(t, r, api.ErrText, "add tea 0", "add tea", "add tea 100", "add Tea 1", "add  tea 1", "note", "note a b")
}

func TestText(t *testing.T) {
	r := begin(t, 0, 2)
	fail(t, r, api.ErrText, "", " ", "add", "add tea", "add tea 0", "add tea 00", "add tea 01", "add tea 100", "add abcdefghi 1", "remove abcdefghi", "note abcdefghi", "add tea 1 ", " add tea 1", "add tea -1", "note a b", "note ", "tea", "add t\xffa 1", "\x00", strings.Repeat(" ", 1<<20), strings.Repeat("add tea 1", 1<<16))
	do(t, r, api.OK, "add a 1", "add abcdefgh 99", "apply abcdefgh", "note z", "remove a")
	wantView(t, r, "item abcdefgh 99\ncoupon abcdefgh\nnote z\n")
}

func TestUnknown(t *testing.T) {
	r := begin(t, 0, 2)
	fail(t, r, api.ErrUnknown, "remove tea", "revoke tea")
	do(t, r, api.OK, "apply tea", "note tea")
	fail(t, r, api.ErrUnknown, "remove tea")
	do(t, r, api.OK, "revoke tea", "add tea 1")
	fail(t, r, api.ErrUnknown, "revoke tea", "remove te", "remove teas")
	do(t, r, api.OK, "remove tea")
	fail(t, r, api.ErrUnknown, "remove tea")
	do(t, r, api.OK, "add tea 2", "remove tea")
}

func TestFull(t *testing.T) {
	for replicas := api.MinReplicas; replicas <= api.MaxReplicas; replicas++ {
		for me := range replicas {
			r := begin(t, me, replicas)
			do(t, r, api.OK, slices.Repeat([]string{"add tea 1"}, 8)...)
			fail(t, r, api.ErrFull, "add tea 1", "remove tea", "apply a", "note a")
			for range 3 * api.MaxRounds {
				r.Tick()
				r.Frames()
			}
			fail(t, r, api.ErrFull, "note a")
			wantView(t, r, "item tea 8\n")
		}
	}
}

// TestErrorsDoNotFill: what was refused is not among the commands that were done.
func TestErrorsDoNotFill(t *testing.T) {
	r := begin(t, 2, 3)
	for range 20 {
		fail(t, r, api.ErrText, "add tea 0")
		fail(t, r, api.ErrUnknown, "remove tea")
	}
	do(t, r, api.OK, "note a", "note b", "note c", "note d", "note e", "note f", "note g", "note h")
	fail(t, r, api.ErrFull, "note i")
	wantKnown(t, r, ops(2, "note a", "note b", "note c", "note d", "note e", "note f", "note g", "note h"))
}

// TestFirstError: P1: of several errors the one named first.
func TestFirstError(t *testing.T) {
	r := begin(t, 0, 2)
	fail(t, r, api.ErrText, "remove Tea", "revoke tea ", "remove abcdefghi")
	do(t, r, api.OK, "add tea 1", "apply a", "remove tea", "add milk 1", "apply b", "revoke a", "note x", "note y")
	fail(t, r, api.ErrText, "remove Tea", "remove tea 1", "revoke a ", "add milk 0", "note")
	fail(t, r, api.ErrUnknown, "remove tea", "revoke a", "remove salt", "revoke milk")
	fail(t, r, api.ErrFull, "remove milk", "revoke b", "add tea 1", "note z")
}

func TestViewOrder(t *testing.T) {
	r := begin(t, 0, 2)
	do(t, r, api.OK, "note z", "apply b", "add b 1", "apply ab", "add aa 10", "apply a", "add a 99", "add b 1")
	wantView(t, r, "item a 99\nitem aa 10\nitem b 2\ncoupon a\ncoupon ab\ncoupon b\nnote z\n")
}

func TestSums(t *testing.T) {
	r := begin(t, 0, 2)
	do(t, r, api.OK, slices.Repeat([]string{"add tea 99"}, 8)...)
	wantView(t, r, "item tea 792\n")
}

// P6, at a replica that has heard nothing

func TestKnown(t *testing.T) {
	r := begin(t, 3, 4)
	texts := []string{"add tea 2", "note a", "apply b", "remove tea", "revoke b", "add tea 2", "note a"}
	for i, text := range texts {
		wantKnown(t, r, ops(3, texts[:i]...))
		do(t, r, api.OK, text)
	}
	wantKnown(t, r, ops(3, texts...))
	r.View()
	r.Tick()
	r.Frames()
	wantKnown(t, r, ops(3, texts...))
}

// P1

func TestAnyCall(t *testing.T) {
	r := begin(t, 1, 3)
	do(t, r, api.OK, "add tea 2")
	for _, from := range []int{math.MinInt, -1, 0, 1, 2, 3, math.MaxInt} {
		for _, data := range [][]byte{nil, {}, {0}, []byte("add tea 1"), make([]byte, api.MaxFrame), make([]byte, api.MaxFrame+1), make([]byte, 1<<20)} {
			r.Receive(from, data)
			r.Tick()
			r.Frames()
		}
	}
	wantKnown(t, r, ops(1, "add tea 2"))
	wantView(t, r, "item tea 2\n")
}

// P2

func TestListsAreTheCallers(t *testing.T) {
	r := begin(t, 0, 2)
	do(t, r, api.OK, "add tea 2", "add milk 1", "note a")
	want := ops(0, "add tea 2", "add milk 1", "note a")
	one, two := r.Known(), r.Known()
	scribble(one)
	if !slices.Equal(two, want) {
		t.Errorf("two lists have a place in common: %v", two)
	}
	wantKnown(t, r, want)
	do(t, r, api.OK, "note b")
	if one[:cap(one)][0].Seq != -1 || !slices.Equal(two, want) {
		t.Errorf("a list that came out changed later: %v, %v", one, two)
	}
	wantKnown(t, r, ops(0, "add tea 2", "add milk 1", "note a", "note b"))
	wantView(t, r, "item milk 1\nitem tea 2\nnote b\n")
}

// scribble writes over the list and its spare room.
func scribble(list []api.Op) {
	list = list[:cap(list)]
	for i := range list {
		list[i] = api.Op{Origin: -1, Seq: -1, Text: "spoilt"}
	}
}

func TestReplicasApart(t *testing.T) {
	a, b, twin := begin(t, 0, 2), begin(t, 1, 2), begin(t, 0, 2)
	do(t, a, api.OK, "add tea 1", "apply x", "note a")
	do(t, b, api.OK, "note b")
	wantKnown(t, a, ops(0, "add tea 1", "apply x", "note a"))
	wantKnown(t, b, ops(1, "note b"))
	wantKnown(t, twin, nil)
	wantView(t, b, "note b\n")
	wantView(t, twin, "")
	fail(t, b, api.ErrUnknown, "remove tea", "revoke x")
}

// Ways

func TestManyGoroutines(t *testing.T) {
	for range 50 {
		r := begin(t, 0, 2)
		var wait sync.WaitGroup
		var answers [16]api.Errno
		for i := range answers {
			wait.Go(func() {
				answers[i] = r.Do(fmt.Sprintf("add tea %d", i+1))
				r.View()
				r.Known()
				r.Tick()
				r.Frames()
				r.Receive(1, nil)
			})
		}
		wait.Wait()
		sum, full := 0, 0
		for i, e := range answers {
			if e == api.OK {
				sum += i + 1
			} else if e == api.ErrFull {
				full++
			}
		}
		if full != len(answers)-api.MaxOpen {
			t.Errorf("answers %v", answers)
		}
		wantView(t, r, fmt.Sprintf("item tea %d\n", sum))
		for i, op := range r.Known() {
			if op.Seq != i+1 {
				t.Errorf("the %d-th is %v", i+1, op)
			}
		}
	}
}
