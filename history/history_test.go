package history

import (
	"slices"
	"testing"

	"cartel/api"
	"cartel/commands"
)

func reach(of ...int) Reach {
	var r Reach
	copy(r.Of[:], of)
	return r
}

func TestReachHas(t *testing.T) {
	r := reach(0, 2, 0, 0, 1)
	for _, c := range []struct {
		origin, seq int
		want        bool
	}{{0, 1, false}, {1, 1, true}, {1, 2, true}, {1, 3, false}, {4, 1, true}, {4, 2, false}} {
		if got := r.Has(c.origin, c.seq); got != c.want {
			t.Errorf("Has(%d, %d) = %v", c.origin, c.seq, got)
		}
	}
}

func TestReachJoin(t *testing.T) {
	a, b := reach(3, 0, 1, 0, 5), reach(1, 2, 1, 0, 6)
	if got, want := a.Join(b), reach(3, 2, 1, 0, 6); got != want || b.Join(a) != want {
		t.Errorf("Join = %v and %v, want %v", got, b.Join(a), want)
	}
	if a != reach(3, 0, 1, 0, 5) || b != reach(1, 2, 1, 0, 6) {
		t.Errorf("Join changed what it was given: %v, %v", a, b)
	}
}

func TestLog(t *testing.T) {
	var l Log
	if len(l.Ops()) != 0 || len(slices.Collect(l.All())) != 0 || l.Reach() != reach() {
		t.Errorf("a new log has something: %v", l)
	}
	tea := commands.Command{Kind: commands.Add, Word: "tea", Count: 2}
	gate := commands.Command{Kind: commands.Note, Word: "gate"}
	l.Do(3, tea)
	l.Do(3, gate)
	want := []Entry{{3, 1, reach(), tea}, {3, 2, reach(0, 0, 0, 1), gate}}
	if got := slices.Collect(l.All()); !slices.Equal(got, want) {
		t.Errorf("All = %v, want %v", got, want)
	}
	if l.Reach() != reach(0, 0, 0, 2) {
		t.Errorf("Reach = %v", l.Reach())
	}
	ops := []api.Op{{Origin: 3, Seq: 1, Text: "add tea 2"}, {Origin: 3, Seq: 2, Text: "note gate"}}
	if got := l.Ops(); !slices.Equal(got, ops) {
		t.Errorf("Ops = %v, want %v", got, ops)
	}
}
