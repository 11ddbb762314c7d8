package history

import (
	"slices"
	"testing"

	"cartel/api"
	"cartel/commands"
)

func reach(of ...int) Reach {
	var r Reach
	copy(r.Of[:], of)
	return r
}

func TestReachHas(t *testing.T) {
	r := reach(0, 2, 0, 0, 1)
	for _, c := range []struct {
		origin, seq int
		want        bool
	}{{0, 1, false}, {1, 1, true}, {1, 2, true}, {1, 3, false}, {4, 1, true}, {4, 2, false}} {
		if got := r.Has(c.origin, c.seq); got != c.want {
			t.Errorf("Has(%d, %d) = %v", c.origin, c.seq, got)
		}
	}
}

func TestReachJoin(t *testing.T) {
	a, b := reach(3, 0, 1, 0, 5), reach(1, 2, 1, 0, 6)
	if got, want := a.Join(b), reach(3, 2, 1, 0, 6); got != want || b.Join(a) != want {
		t.Errorf("Join = %v and %v, want %v", got, b.Join(a), want)
	}
	if a != reach(3, 0, 1, 0, 5) || b != reach(1, 2, 1, 0, 6) {
		t.Errorf("Join changed what it was given: %v, %v", a, b)
	}
}

func TestReachCovers(t *testing.T) {
	r := reach(0, 2, 0, 0, 1)
	for _, c := range []struct {
		other Reach
		want  bool
	}{{reach(), true}, {r, true}, {reach(0, 1, 0, 0, 1), true}, {reach(1), false}, {reach(0, 3), false}, {reach(0, 2, 0, 0, 2), false}, {reach(0, 0, 0, 1), false}} {
		if got := r.Covers(c.other); got != c.want {
			t.Errorf("%v covers %v: %v", r, c.other, got)
		}
	}
}

func TestLearn(t *testing.T) {
	var l Log
	a := commands.Command{Kind: commands.Note, Word: "a"}
	first, second, third := Entry{0, 1, reach(), a}, Entry{0, 2, reach(1), a}, Entry{0, 3, reach(2, 1), a}
	other := Entry{1, 1, reach(2), a}
	learn := func(want []Entry, entries ...Entry) {
		t.Helper()
		for _, e := range entries {
			l.Learn(e)
		}
		if got := slices.Collect(l.All()); !slices.Equal(got, want) {
			t.Errorf("the log is %v, want %v", got, want)
		}
	}
	learn(nil, second, third, other)
	learn([]Entry{first}, first, first, third, other)
	learn([]Entry{first, second}, second, first, third, second)
	own := l.Do(2, a)
	if own != (Entry{2, 1, reach(2), a}) {
		t.Errorf("Do = %v", own)
	}
	learn([]Entry{first, second, own, other, third}, third, other, third, other)
	if l.Reach() != reach(3, 1, 1) {
		t.Errorf("Reach = %v", l.Reach())
	}
}

func TestLog(t *testing.T) {
	var l Log
	if len(l.Ops()) != 0 || len(slices.Collect(l.All())) != 0 || l.Reach() != reach() {
		t.Errorf("a new log has something: %v", l)
	}
	tea := commands.Command{Kind: commands.Add, Word: "tea", Count: 2}
	gate := commands.Command{Kind: commands.Note, Word: "gate"}
	l.Do(3, tea)
	l.Do(3, gate)
	want := []Entry{{3, 1, reach(), tea}, {3, 2, reach(0, 0, 0, 1), gate}}
	if got := slices.Collect(l.All()); !slices.Equal(got, want) {
		t.Errorf("All = %v, want %v", got, want)
	}
	if l.Reach() != reach(0, 0, 0, 2) {
		t.Errorf("Reach = %v", l.Reach())
	}
	ops := []api.Op{{Origin: 3, Seq: 1, Text: "add tea 2"}, {Origin: 3, Seq: 2, Text: "note gate"}}
	if got := l.Ops(); !slices.Equal(got, ops) {
		t.Errorf("Ops = %v, want %v", got, ops)
	}
}
