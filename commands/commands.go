// Package commands reads the texts that are commands, and writes them again.
package commands

import (
	"strconv"
	"strings"

	"cartel/api"
)

// Kind is what a command does.
type Kind int

const (
	Add Kind = iota
	Remove
	Apply
	Revoke
	Note
)

var verbs = [...]string{Add: "add", Remove: "remove", Apply: "apply", Revoke: "revoke", Note: "note"}

const maxDigits = 2

// Command is a command in its parts; Count is 0 but for an Add.
type Command struct {
	Kind  Kind
	Word  string
	Count int
}

// Parse answers false for a text that is no command.
func Parse(text string) (Command, bool) {
	verb, rest, _ := strings.Cut(text, " ")
	kind, ok := kindOf(verb)
	if !ok {
		return Command{}, false
	}
	if kind == Add {
		return parseAdd(rest)
	}
	if !isWord(rest) {
		return Command{}, false
	}
	return newCommand(kind, rest, 0), true
}

func parseAdd(rest string) (Command, bool) {
	word, digits, _ := strings.Cut(rest, " ")
	count := countOf(digits)
	if !isWord(word) || count == 0 {
		return Command{}, false
	}
	return newCommand(Add, word, count), true
}

// newCommand copies the word, because the text that it is a piece of is the caller's and may be far longer.
func newCommand(kind Kind, word string, count int) Command {
	return Command{Kind: kind, Word: strings.Clone(word), Count: count}
}

func kindOf(verb string) (Kind, bool) {
	for kind, v := range verbs {
		if v == verb {
			return Kind(kind), true
		}
	}
	return 0, false
}

func isWord(text string) bool {
	if len(text) < 1 || len(text) > api.MaxWord {
		return false
	}
	for i := range len(text) {
		if text[i] < 'a' || text[i] > 'z' {
			return false
		}
	}
	return true
}

// countOf answers 0 for a text that is no count, as no count is 0.
func countOf(text string) int {
	if len(text) < 1 || len(text) > maxDigits || text[0] == '0' {
		return 0
	}
	count := 0
	for i := range len(text) {
		if text[i] < '0' || text[i] > '9' {
			return 0
		}
		count = count*10 + int(text[i]-'0')
	}
	return count
}

// Text is the one text of which Parse makes this command.
func (c Command) Text() string {
	text := verbs[c.Kind] + " " + c.Word
	if c.Kind == Add {
		text += " " + strconv.Itoa(c.Count)
	}
	return text
}
