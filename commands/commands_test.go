package commands

import (
	"strconv"
	"strings"
	"testing"
)

func TestParse(t *testing.T) {
	for text, want := range map[string]Command{
		"add tea 2":       {Add, "tea", 2},
		"add a 1":         {Add, "a", 1},
		"add abcdefgh 99": {Add, "abcdefgh", 99},
		"add az 10":       {Add, "az", 10},
		"add add 9":       {Add, "add", 9},
		"remove tea":      {Remove, "tea", 0},
		"remove z":        {Remove, "z", 0},
		"apply summer":    {Apply, "summer", 0},
		"revoke summer":   {Revoke, "summer", 0},
		"revoke abcdefgh": {Revoke, "abcdefgh", 0},
		"note door":       {Note, "door", 0},
		"note note":       {Note, "note", 0},
		"remove remove":   {Remove, "remove", 0},
		"apply qwertyui":  {Apply, "qwertyui", 0},
		"note zzzzzzzz":   {Note, "zzzzzzzz", 0},
		"add zzzzzzzz 11": {Add, "zzzzzzzz", 11},
	} {
		got, ok := Parse(text)
		if got != want || !ok {
			t.Errorf("Parse(%q) = %v, %v, want %v", text, got, ok, want)
		}
	}
}

func TestParseNoCommand(t *testing.T) {
	for _, text := range []string{
		"", " ", "  ", "\n", "\x00", "\xff", "tea", "tea 1", "add", "remove", "apply", "revoke", "note",
		"add ", "remove ", "apply ", "revoke ", "note ", "add  ", "add 1", "add  1", "add tea", "add tea ",
		"add tea 0", "add tea 00", "add tea 01", "add tea 09", "add tea 100", "add tea 001", "add tea 999",
		"add tea -1", "add tea +1", "add tea 1.", "add tea 1e", "add tea x", "add tea x1", "add tea 1x", "add tea /", "add tea :", "add tea 1/", "add tea 1:",
		"add tea ٣", "add tea 1 2", "add tea 1 ", " add tea 1", "add  tea 1", "add tea  1", "add tea\t1", "add\ttea 1", "add tea 1\n", "\nadd tea 1",
		"add Tea 1", "add te4 1", "add t-a 1", "add té 1", "add `a 1", "add {a 1", "add a` 1", "add a{ 1", "add t\x00a 1", "add t\xffa 1",
		"add abcdefghi 1", "remove abcdefghi", "apply abcdefghi", "revoke abcdefghi", "note abcdefghi",
		"remove tea 1", "apply tea 1", "revoke tea 1", "note tea 1", "note a b", "remove  tea", "remove tea ", " remove tea", "remove tea\n",
		"ADD tea 1", "Add tea 1", "adds tea 1", "ad tea 1", "removed tea", "Note a", "noted a", "view", "add,tea,1",
		strings.Repeat(" ", 1<<20), strings.Repeat("a", 1<<20), "note " + strings.Repeat("a", 1<<20), "add tea " + strings.Repeat("1", 1<<20),
	} {
		if c, ok := Parse(text); ok || c != (Command{}) {
			t.Errorf("Parse(%.40q) = %v, %v, want none", text, c, ok)
		}
	}
}

func TestEachCount(t *testing.T) {
	for n := range 1200 {
		c, ok := Parse("add tea " + strconv.Itoa(n))
		if want := n >= 1 && n <= 99; ok != want || ok && c.Count != n {
			t.Errorf("count %d: %v, %v", n, c, ok)
		}
	}
}

func TestEachLengthOfWord(t *testing.T) {
	for n := range 12 {
		word := strings.Repeat("x", n)
		for _, text := range []string{"add " + word + " 1", "remove " + word, "apply " + word, "revoke " + word, "note " + word} {
			if _, ok := Parse(text); ok != (n >= 1 && n <= 8) {
				t.Errorf("Parse(%q): %v", text, ok)
			}
		}
	}
}

func TestEachByteOfWord(t *testing.T) {
	for b := range 256 {
		for _, word := range []string{string([]byte{byte(b)}), string([]byte{'a', byte(b)}), string([]byte{byte(b), 'z'})} {
			if _, ok := Parse("note " + word); ok != (b >= 'a' && b <= 'z') {
				t.Errorf("note %q: %v", word, ok)
			}
		}
	}
}

func TestText(t *testing.T) {
	for _, text := range []string{"add tea 2", "add abcdefgh 99", "add a 1", "remove tea", "apply summer", "revoke summer", "note door"} {
		c, ok := Parse(text)
		if !ok || c.Text() != text {
			t.Errorf("Parse(%q).Text() = %q, %v", text, c.Text(), ok)
		}
	}
}
