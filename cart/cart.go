// Package cart works out the cart of some commands.
package cart

import (
	"iter"
	"maps"
	"slices"
	"strconv"
	"strings"

	"cartel/api"
	"cartel/commands"
	"cartel/history"
)

// Cart is what is in the cart, by its words; of an item, how many there are.
type Cart struct {
	items   map[string]int
	coupons map[string]struct{}
	notes   map[string]struct{}
}

// ends has what is ahead of the commands that take something out. Whether a command is ahead of one of several can be told from all that is ahead of them together, so one reach a word will do, and one for all notes.
type ends struct {
	items   map[string]history.Reach
	coupons map[string]history.Reach
	notes   history.Reach
}

// Of is the cart of these commands, the same in whatever order they come.
func Of(known iter.Seq[history.Entry]) Cart {
	e := endsOf(known)
	c := Cart{items: map[string]int{}, coupons: map[string]struct{}{}, notes: map[string]struct{}{}}
	for entry := range known {
		if !e.has(entry) {
			c.put(entry.Command)
		}
	}
	return c
}

func endsOf(known iter.Seq[history.Entry]) ends {
	e := ends{items: map[string]history.Reach{}, coupons: map[string]history.Reach{}}
	for entry := range known {
		word := entry.Command.Word
		switch entry.Command.Kind {
		case commands.Remove:
			e.items[word] = e.items[word].Join(entry.Ahead)
		case commands.Revoke:
			e.coupons[word] = e.coupons[word].Join(entry.Ahead)
		case commands.Note:
			e.notes = e.notes.Join(entry.Ahead)
		}
	}
	return e
}

// has tells whether what the entry put into the cart was taken out again.
func (e ends) has(entry history.Entry) bool {
	var gone history.Reach
	switch entry.Command.Kind {
	case commands.Add:
		gone = e.items[entry.Command.Word]
	case commands.Apply:
		gone = e.coupons[entry.Command.Word]
	case commands.Note:
		gone = e.notes
	}
	return gone.Has(entry.Origin, entry.Seq)
}

func (c Cart) put(command commands.Command) {
	switch command.Kind {
	case commands.Add:
		c.items[command.Word] = min(c.items[command.Word]+command.Count, api.MaxTotal)
	case commands.Apply:
		c.coupons[command.Word] = struct{}{}
	case commands.Note:
		c.notes[command.Word] = struct{}{}
	}
}

// HasItem tells whether an item of this word is in the cart.
func (c Cart) HasItem(word string) bool {
	_, ok := c.items[word]
	return ok
}

// HasCoupon tells whether a coupon of this word is in the cart.
func (c Cart) HasCoupon(word string) bool {
	_, ok := c.coupons[word]
	return ok
}

// Text is the cart as lines, sorted because maps have no order.
func (c Cart) Text() string {
	var b strings.Builder
	for _, word := range slices.Sorted(maps.Keys(c.items)) {
		b.WriteString("item " + word + " " + strconv.Itoa(c.items[word]) + "\n")
	}
	writeWords(&b, "coupon ", c.coupons)
	writeWords(&b, "note ", c.notes)
	return b.String()
}

func writeWords(b *strings.Builder, kind string, words map[string]struct{}) {
	for _, word := range slices.Sorted(maps.Keys(words)) {
		b.WriteString(kind + word + "\n")
	}
}
