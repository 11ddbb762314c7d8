package wire

import (
	"bytes"
	"math/rand"
	"slices"
	"strings"
	"testing"

	"cartel/api"
	"cartel/commands"
	"cartel/history"
)

// entry is a command of the replica origin, behind so many of each replica.
func entry(t testing.TB, origin int, text string, ahead ...int) history.Entry {
	t.Helper()
	c, ok := commands.Parse(text)
	if !ok {
		t.Fatalf("%q is no command", text)
	}
	e := history.Entry{Origin: origin, Command: c}
	copy(e.Ahead.Of[:], ahead)
	e.Seq = e.Ahead.Of[origin] + 1
	return e
}

// readAll joins what stands in the frames to one letter again.
func readAll(t *testing.T, frames [][]byte) Letter {
	t.Helper()
	var whole Letter
	for i, frame := range frames {
		if len(frame) < 1 || len(frame) > api.MaxFrame {
			t.Errorf("a frame of %d bytes", len(frame))
		}
		l, ok := Read(frame)
		if !ok {
			t.Fatalf("Read(%v) is false", frame)
		}
		if i > 0 && (l.From != whole.From || l.To != whole.To || l.Heard != whole.Heard) {
			t.Errorf("frames of one letter have the heads %v and %v", whole, l)
		}
		l.Entries = append(whole.Entries, l.Entries...)
		whole = l
	}
	return whole
}

func wantLetter(t *testing.T, got, want Letter) {
	t.Helper()
	if got.From != want.From || got.To != want.To || got.Heard != want.Heard || !slices.Equal(got.Entries, want.Entries) {
		t.Errorf("read %v, written %v", got, want)
	}
}

func TestLetters(t *testing.T) {
	for _, l := range []Letter{
		{From: 0, To: 1},
		{From: 4, To: 3, Heard: 127},
		{From: 1, To: 0, Heard: 128, Entries: []history.Entry{entry(t, 1, "add tea 2")}},
		{From: 1, To: 0, Heard: 1<<56 - 1, Entries: []history.Entry{entry(t, 1, "note a", 1, 2, 3, 4, 5), entry(t, 1, "revoke abcdefgh", 1, 3, 300, 70000, 5)}},
		{From: 2, To: 0, Entries: []history.Entry{entry(t, 2, "remove z", 1<<56-1, 1<<56-1, 1<<56-1, 1<<56-1, 1<<56-1)}},
	} {
		frames := Write(l)
		if len(frames) != 1 {
			t.Errorf("%v takes %d frames", l, len(frames))
		}
		wantLetter(t, readAll(t, frames), l)
	}
}

func TestDrawnLetters(t *testing.T) {
	r := rand.New(rand.NewSource(1))
	for range 5000 {
		l := Letter{From: r.Intn(5), To: r.Intn(5), Heard: drawNumber(r)}
		for range r.Intn(20) {
			e := entry(t, l.From, drawText(r), drawNumber(r), drawNumber(r), drawNumber(r), drawNumber(r), drawNumber(r))
			l.Entries = append(l.Entries, e)
		}
		wantLetter(t, readAll(t, Write(l)), l)
	}
}

func drawNumber(r *rand.Rand) int {
	return r.Intn(1 << (1 + r.Intn(56)))
}

func drawText(r *rand.Rand) string {
	word := strings.Repeat(string(rune('a'+r.Intn(26))), 1+r.Intn(8))
	return []string{"add " + word + " 1", "add " + word + " 99", "remove " + word, "apply " + word, "revoke " + word, "note " + word}[r.Intn(6)]
}

// TestFullFrame: what makes MaxFrame bytes is one frame, what makes one more is two.
func TestFullFrame(t *testing.T) {
	// Five bytes of seal, three of head, 21 for each of the first eight, and 24 for the last.
	l := Letter{From: 0, To: 1, Entries: slices.Repeat([]history.Entry{entry(t, 0, "remove abcdefgh")}, 8)}
	l.Entries = append(l.Entries, entry(t, 0, "remove abcdefgh", 0, 1<<14, 1<<7))
	frames := Write(l)
	if len(frames) != 1 || len(frames[0]) != api.MaxFrame {
		t.Errorf("%d frames, the first of %d bytes", len(frames), len(frames[0]))
	}
	wantLetter(t, readAll(t, frames), l)
	l.Heard = 128
	frames = Write(l)
	if len(frames) != 2 || len(frames[0]) != 5+4+8*21 || len(frames[1]) != 5+4+24 {
		t.Errorf("%d frames, the first of %d bytes", len(frames), len(frames[0]))
	}
	wantLetter(t, readAll(t, frames), l)
}

// TestWhatIsNoFrame: bodies that are not spoilt, but no letters.
func TestWhatIsNoFrame(t *testing.T) {
	text := "\x00\x00\x00\x00\x00"
	for _, bad := range []string{
		"", "\x00", "\x00\x01", "\x05\x01\x00", "\x00\x05\x00", "\xff\x01\x00", "\x00\x01\x80", "\x00\x01\x80\x80\x80\x80\x80\x80\x80\x80\x00",
		"\x00\x01\x00" + text,
		"\x00\x01\x00" + text + "\x00",
		"\x00\x01\x00" + text + "\x07note a",
		"\x00\x01\x00" + text + "\x06note A",
		"\x00\x01\x00" + text + "\x05note ",
		"\x00\x01\x00" + text + "\x09add tea 0",
		"\x00\x01\x00" + text + "\x06note a\x00",
		"\x00\x01\x00" + text + "\xffnote a",
		"\x00\x01\x00" + strings.Repeat(text+"\x0fnote a", 16),
		"\x00\x01\x00" + strings.Repeat(text+"\x06note a", 17),
	} {
		if l, ok := Read(seal([]byte(bad))); ok || l.Entries != nil {
			t.Errorf("Read(%q) = %v, %v", bad, l, ok)
		}
	}
	if _, ok := Read(seal([]byte("\x00\x01\x00" + strings.Repeat(text+"\x06note a", 16)))); !ok {
		t.Errorf("sixteen short notes are no frame")
	}
}

func TestBytesAreNotKept(t *testing.T) {
	l := Letter{From: 1, To: 0, Heard: 1, Entries: []history.Entry{entry(t, 1, "add tea 2"), entry(t, 1, "note abc", 0, 1)}}
	frame := Write(l)[0]
	was := bytes.Clone(frame)
	got, _ := Read(frame)
	if !bytes.Equal(frame, was) {
		t.Errorf("Read changed %v to %v", was, frame)
	}
	clear(frame)
	wantLetter(t, got, l)
}

// TestCutBodies: a body that ends early is a letter only where an entry could begin.
func TestCutBodies(t *testing.T) {
	body, _ := unseal(Write(Letter{From: 1, To: 0, Heard: 300, Entries: []history.Entry{entry(t, 1, "add tea 2", 0, 200)}})[0])
	for n := range len(body) {
		if _, ok := Read(seal(body[:n])); ok != (n == 4) {
			t.Errorf("the body %v cut off to %d: %v", body, n, ok)
		}
	}
}

func FuzzRead(f *testing.F) {
	frame := Write(Letter{From: 1, To: 0, Heard: 300, Entries: []history.Entry{entry(f, 1, "add tea 2", 0, 200)}})[0]
	body, _ := unseal(frame)
	f.Add([]byte{})
	f.Add(frame)
	f.Add(body)
	f.Fuzz(func(t *testing.T, data []byte) {
		for _, frame := range [][]byte{data, seal(data)} {
			if l, ok := Read(frame); ok {
				wantLetter(t, readAll(t, Write(l)), l)
			}
		}
	})
}
