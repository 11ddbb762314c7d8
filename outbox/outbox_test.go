package outbox

import (
	"fmt"
	"math/rand"
	"slices"
	"testing"

	"cartel/history"
)

func entry(seq int) history.Entry {
	return history.Entry{Seq: seq}
}

// told is mail as a text: to whom, and which commands.
func told(mail []Mail) string {
	s := ""
	for _, m := range mail {
		s += fmt.Sprint("to ", m.To, ":")
		for _, e := range m.Entries {
			s += fmt.Sprint(" ", e.Seq)
		}
		s += ";"
	}
	return s
}

func wantMail(t *testing.T, b *Box, want string) {
	t.Helper()
	if got := told(b.Take()); got != want {
		t.Errorf("Take() = %q, want %q", got, want)
	}
}

func TestNothingToSend(t *testing.T) {
	var b Box
	wantMail(t, &b, "")
	b.Tick()
	wantMail(t, &b, "")
	if b.Open() != 0 {
		t.Errorf("Open() = %d", b.Open())
	}
}

func TestSentAgainAtEachTick(t *testing.T) {
	var b Box
	b.Put(2, entry(1))
	for range 5 {
		wantMail(t, &b, "to 2: 1;")
		wantMail(t, &b, "")
		b.Tick()
	}
	b.Tick()
	b.Tick()
	wantMail(t, &b, "to 2: 1;")
	wantMail(t, &b, "")
}

func TestNewOnesGoAtOnce(t *testing.T) {
	var b Box
	b.Put(1, entry(1))
	wantMail(t, &b, "to 1: 1;")
	b.Put(1, entry(2))
	wantMail(t, &b, "to 1: 2;")
	b.Put(1, entry(3))
	b.Put(0, entry(3))
	b.Tick()
	wantMail(t, &b, "to 0: 3;to 1: 1 2 3;")
	wantMail(t, &b, "")
}

func TestKnown(t *testing.T) {
	var b Box
	for seq := 1; seq <= 3; seq++ {
		b.Put(0, entry(seq))
		b.Put(4, entry(seq))
	}
	b.Known(4, 2)
	b.Known(4, 1) // overtaken on its way
	b.Known(3, 3)
	wantMail(t, &b, "to 0: 1 2 3;to 4: 3;")
	b.Known(0, 3)
	b.Tick()
	wantMail(t, &b, "to 4: 3;")
	b.Known(4, 3)
	b.Tick()
	wantMail(t, &b, "")
}

func TestAnswers(t *testing.T) {
	var b Box
	b.Owe(3)
	b.Owe(3)
	wantMail(t, &b, "to 3:;")
	wantMail(t, &b, "")
	b.Tick()
	wantMail(t, &b, "")
	b.Put(3, entry(1))
	b.Owe(3)
	b.Owe(1)
	wantMail(t, &b, "to 1:;to 3: 1;")
	b.Tick()
	wantMail(t, &b, "to 3: 1;")
}

func TestOpen(t *testing.T) {
	var b Box
	want := func(n int) {
		t.Helper()
		if b.Open() != n {
			t.Errorf("Open() = %d, want %d", b.Open(), n)
		}
	}
	for seq := 1; seq <= 8; seq++ {
		b.Put(1, entry(seq))
		b.Put(2, entry(seq))
		want(seq)
	}
	b.Known(1, 8)
	want(8)
	b.Known(2, 3)
	want(5)
	b.Take()
	b.Tick()
	want(5)
	b.Put(1, entry(9))
	b.Put(2, entry(9))
	want(6)
	b.Known(2, 9)
	want(1)
	b.Known(1, 9)
	want(0)
}

// TestNothingIsHoarded: what is known waits no more, though no time goes by in which it would be due.
func TestNothingIsHoarded(t *testing.T) {
	var b Box
	for seq := range 1000 {
		b.Put(1, entry(seq))
		b.Take()
		b.Known(1, seq)
		if len(b.waiting) != 0 {
			t.Fatalf("%d wait", len(b.waiting))
		}
	}
}

// TestDrawn holds the heap to a list of all that is not known yet.
func TestDrawn(t *testing.T) {
	r := rand.New(rand.NewSource(1))
	for range 200 {
		var b Box
		var list []item
		now := 0
		for range 200 {
			switch r.Intn(5) {
			case 0:
				b.Tick()
				now++
			case 1, 2:
				i := item{due: now, to: r.Intn(5), entry: entry(1 + r.Intn(1000))}
				b.Put(i.to, i.entry)
				list = append(list, i)
			case 3:
				to, count := r.Intn(5), r.Intn(300)
				b.Known(to, count)
				list = slices.DeleteFunc(list, func(i item) bool { return i.to == to && i.entry.Seq <= count })
			default:
				wantMail(t, &b, told(dueOf(list, now)))
			}
		}
	}
}

// dueOf is the mail of the list at this time; what goes into it is due at the next one.
func dueOf(list []item, now int) []Mail {
	var all []Mail
	for to := range 5 {
		m := Mail{To: to}
		for i := range list {
			if list[i].to == to && list[i].due <= now {
				m.Entries = append(m.Entries, list[i].entry)
				list[i].due = now + 1
			}
		}
		slices.SortFunc(m.Entries, func(x, y history.Entry) int { return x.Seq - y.Seq })
		if len(m.Entries) > 0 {
			all = append(all, m)
		}
	}
	return all
}
