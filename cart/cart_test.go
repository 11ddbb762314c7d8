package cart

import (
	"fmt"
	"math/rand"
	"slices"
	"strings"
	"testing"

	"cartel/commands"
	"cartel/history"
)

// done is the command of that text, with so many of each replica ahead of it.
func done(t *testing.T, origin, seq int, text string, ahead ...int) history.Entry {
	t.Helper()
	c, ok := commands.Parse(text)
	if !ok {
		t.Fatalf("no command: %q", text)
	}
	e := history.Entry{Origin: origin, Seq: seq, Command: c}
	copy(e.Ahead.Of[:], ahead)
	return e
}

// alone is the entries of texts that one replica did, one after the other.
func alone(t *testing.T, texts ...string) []history.Entry {
	t.Helper()
	var list []history.Entry
	for i, text := range texts {
		list = append(list, done(t, 0, i+1, text, i))
	}
	return list
}

// wantText holds the cart against the text, for the entries as they stand and turned round.
func wantText(t *testing.T, list []history.Entry, want string) {
	t.Helper()
	turned := slices.Clone(list)
	slices.Reverse(turned)
	for _, l := range [][]history.Entry{list, turned} {
		if got := Of(slices.Values(l)).Text(); got != want {
			t.Errorf("cart of %v: %q, want %q", l, got, want)
		}
	}
}

func TestNothing(t *testing.T) {
	wantText(t, nil, "")
}

func TestOneReplica(t *testing.T) {
	wantText(t, alone(t, "add tea 2", "add tea 3", "add milk 1", "apply summer", "note door"), "item milk 1\nitem tea 5\ncoupon summer\nnote door\n")
	wantText(t, alone(t, "add tea 2", "add milk 1", "remove tea"), "item milk 1\n")
	wantText(t, alone(t, "add tea 2", "remove tea", "add tea 1"), "item tea 1\n")
	wantText(t, alone(t, "apply a", "apply a", "revoke a"), "")
	wantText(t, alone(t, "apply a", "revoke a", "apply a"), "coupon a\n")
	wantText(t, alone(t, "note a", "note b", "note a"), "note a\n")
	wantText(t, alone(t, "note a", "note a"), "note a\n")
}

func TestKindsApart(t *testing.T) {
	wantText(t, alone(t, "apply a", "note a", "add a 1", "remove a"), "coupon a\nnote a\n")
	wantText(t, alone(t, "add a 1", "note a", "apply a", "revoke a"), "item a 1\nnote a\n")
	wantText(t, alone(t, "add a 1", "apply a", "note b"), "item a 1\ncoupon a\nnote b\n")
}

func TestMaxTotal(t *testing.T) {
	for _, c := range []struct{ nines, more, want int }{{10, 8, 998}, {10, 9, 999}, {10, 10, 999}, {10, 99, 999}, {60, 1, 999}} {
		texts := slices.Repeat([]string{"add tea 99"}, c.nines)
		texts = append(texts, fmt.Sprintf("add tea %d", c.more), "add milk 1")
		wantText(t, alone(t, texts...), fmt.Sprintf("item milk 1\nitem tea %d\n", c.want))
	}
}

// TestMaxTotalBehindRemove: what no longer counts does not fill the sum.
func TestMaxTotalBehindRemove(t *testing.T) {
	texts := append(slices.Repeat([]string{"add tea 99"}, 11), "remove tea", "add tea 7")
	wantText(t, alone(t, texts...), "item tea 7\n")
}

func TestOrder(t *testing.T) {
	list := []history.Entry{
		done(t, 0, 1, "add b 1"), done(t, 0, 2, "add aa 1", 1), done(t, 0, 3, "add a 12", 2), done(t, 0, 4, "add ab 1", 3),
		done(t, 1, 1, "apply z"), done(t, 1, 2, "apply b", 0, 1), done(t, 1, 3, "apply ba", 0, 2),
		done(t, 2, 1, "note y"), done(t, 3, 1, "note x"), done(t, 4, 1, "note xx"),
	}
	wantText(t, list, "item a 12\nitem aa 1\nitem ab 1\nitem b 1\ncoupon b\ncoupon ba\ncoupon z\nnote x\nnote xx\nnote y\n")
}

func TestAddAgainstRemove(t *testing.T) {
	wantText(t, []history.Entry{done(t, 0, 1, "add tea 1"), done(t, 0, 2, "remove tea", 1), done(t, 1, 1, "add tea 2", 1)}, "item tea 2\n")
	wantText(t, []history.Entry{done(t, 0, 1, "add tea 1"), done(t, 1, 1, "add tea 2", 1), done(t, 0, 2, "remove tea", 1, 1)}, "")
}

// TestTwoRemoves: each takes out what it knew, also when neither knew all.
func TestTwoRemoves(t *testing.T) {
	list := []history.Entry{
		done(t, 0, 1, "add tea 1"), done(t, 0, 2, "remove tea", 1),
		done(t, 1, 1, "add tea 2"), done(t, 1, 2, "remove tea", 0, 1),
		done(t, 2, 1, "add tea 4"),
	}
	wantText(t, list, "item tea 4\n")
	wantText(t, list[:4], "")
}

func TestApplyAgainstRevoke(t *testing.T) {
	list := []history.Entry{done(t, 0, 1, "apply a"), done(t, 0, 2, "revoke a", 1), done(t, 1, 1, "apply a")}
	wantText(t, list, "coupon a\n")
	wantText(t, append(list, done(t, 2, 1, "revoke a", 0, 1)), "")
}

func TestNotes(t *testing.T) {
	list := []history.Entry{done(t, 0, 1, "note a"), done(t, 1, 1, "note b")}
	wantText(t, list, "note a\nnote b\n")
	wantText(t, append(list, done(t, 0, 2, "note c", 1, 1)), "note c\n")
	wantText(t, append(list, done(t, 0, 2, "note c", 1)), "note b\nnote c\n")
	wantText(t, append(list, done(t, 0, 2, "note b", 1)), "note b\n")
}

func TestHas(t *testing.T) {
	c := Of(slices.Values(alone(t, "add tea 1", "add milk 1", "apply a", "apply b", "note c", "remove milk", "revoke b")))
	for word, want := range map[string]int{"tea": 1, "milk": 0, "a": 0, "c": 0, "": 0} {
		if c.HasItem(word) != (want == 1) {
			t.Errorf("HasItem(%q)", word)
		}
	}
	for word, want := range map[string]int{"a": 1, "b": 0, "tea": 0, "c": 0, "": 0} {
		if c.HasCoupon(word) != (want == 1) {
			t.Errorf("HasCoupon(%q)", word)
		}
	}
}

// known is what one of the replicas of TestDefinition knows.
type known struct {
	list []history.Entry
	ids  map[int]bool
}

func id(e history.Entry) int { return e.Origin*1000 + e.Seq }

// TestDefinition holds the cart against the document's words, for commands that were done and heard of at random.
func TestDefinition(t *testing.T) {
	verbs := []string{"add %s 60", "add %s 1", "remove %s", "apply %s", "revoke %s", "note %s"}
	for seed := range int64(200) {
		random := rand.New(rand.NewSource(seed))
		replicas := make([]known, 3)
		ahead := map[int]map[int]bool{} // by its id: what is ahead of a command
		for range 60 {
			me := random.Intn(len(replicas))
			r := &replicas[me]
			if random.Intn(3) == 0 {
				hear(r, replicas[random.Intn(len(replicas))])
				continue
			}
			var reach [3]int
			for _, e := range r.list {
				reach[e.Origin]++
			}
			text := fmt.Sprintf(verbs[random.Intn(len(verbs))], string(rune('a'+random.Intn(3))))
			e := done(t, me, reach[me]+1, text, reach[:]...)
			ahead[id(e)] = r.ids
			hear(r, known{list: []history.Entry{e}})
		}
		for _, r := range replicas {
			wantText(t, r.list, byDefinition(r.list, func(a, b history.Entry) bool { return ahead[id(b)][id(a)] }))
		}
	}
}

// hear takes over what the other knows, as a new set: the old one may stand in ahead.
func hear(r *known, other known) {
	ids := map[int]bool{}
	for _, e := range r.list {
		ids[id(e)] = true
	}
	for _, e := range other.list {
		if !ids[id(e)] {
			ids[id(e)] = true
			r.list = append(r.list, e)
		}
	}
	r.ids = ids
}

// byDefinition goes by the document's words one by one, each command against each other one.
func byDefinition(list []history.Entry, ahead func(a, b history.Entry) bool) string {
	endedBy := map[commands.Kind]commands.Kind{commands.Add: commands.Remove, commands.Apply: commands.Revoke, commands.Note: commands.Note}
	sums := map[string]int{}
	for _, a := range list {
		kind := a.Command.Kind
		end, puts := endedBy[kind]
		stays := puts && !slices.ContainsFunc(list, func(b history.Entry) bool {
			return b.Command.Kind == end && (kind == commands.Note || a.Command.Word == b.Command.Word) && ahead(a, b)
		})
		if stays {
			sums[fmt.Sprint(kind, " ", a.Command.Word)] += a.Command.Count
		}
	}
	var b strings.Builder
	for _, part := range []struct {
		kind commands.Kind
		name string
	}{{commands.Add, "item"}, {commands.Apply, "coupon"}, {commands.Note, "note"}} {
		for _, word := range []string{"a", "b", "c"} {
			sum, ok := sums[fmt.Sprint(part.kind, " ", word)]
			if !ok {
				continue
			}
			b.WriteString(part.name + " " + word)
			if part.kind == commands.Add {
				fmt.Fprintf(&b, " %d", min(sum, 999))
			}
			b.WriteString("\n")
		}
	}
	return b.String()
}
