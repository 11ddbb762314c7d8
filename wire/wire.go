// Package wire writes what one replica tells another as frames, and reads it again.
package wire

import (
	"cartel/api"
	"cartel/commands"
	"cartel/history"
)

// Letter is what the replica From tells the replica To.
type Letter struct {
	From, To int
	Heard    int             // how many of To's commands are known at From
	Entries  []history.Entry // commands that were done at From
}

// A number goes as seven bits a byte, the low ones first; the top bit says that it goes on. It has numberBits at most: more than a count of commands ever needs, and one more than such a number is still an int.
const (
	groupBits  = 7
	goesOn     = 1 << groupBits
	numberBits = 8 * groupBits
)

// Write lays a letter into frames. Each has the head of the letter, because any of them may get lost.
func Write(l Letter) [][]byte {
	var frames [][]byte
	body := head(l)
	for _, e := range l.Entries {
		piece := appendEntry(nil, e)
		if len(body)+len(piece) > room {
			frames = append(frames, seal(body))
			body = head(l)
		}
		body = append(body, piece...)
	}
	return append(frames, seal(body))
}

func head(l Letter) []byte {
	return appendNumber([]byte{byte(l.From), byte(l.To)}, l.Heard)
}

// appendEntry leaves out Origin and Seq: all entries are the sender's, and what is ahead of one tells which it is.
func appendEntry(b []byte, e history.Entry) []byte {
	for _, n := range e.Ahead.Of {
		b = appendNumber(b, n)
	}
	text := e.Command.Text()
	return append(append(b, byte(len(text))), text...)
}

func appendNumber(b []byte, n int) []byte {
	for n >= goesOn {
		b = append(b, byte(n%goesOn+goesOn))
		n /= goesOn
	}
	return append(b, byte(n))
}

// Read answers false for bytes that are no frame, or one that was spoilt. It keeps nothing of them.
func Read(frame []byte) (Letter, bool) {
	body, ok := unseal(frame)
	if !ok {
		return Letter{}, false
	}
	r := reader{rest: body}
	l := r.head()
	for len(r.rest) > 0 && !r.bad {
		l.Entries = append(l.Entries, r.entry(l.From))
	}
	if r.bad {
		return Letter{}, false
	}
	return l, true
}

// reader goes through the body of a frame. Once it is bad it stays so, and what it reads means nothing.
type reader struct {
	rest []byte
	bad  bool
}

func (r *reader) head() Letter {
	from, to := r.replica(), r.replica()
	return Letter{From: from, To: to, Heard: r.number()}
}

func (r *reader) entry(origin int) history.Entry {
	var ahead history.Reach
	for i := range ahead.Of {
		ahead.Of[i] = r.number()
	}
	c, ok := commands.Parse(r.text())
	if !ok {
		r.bad = true
	}
	return history.Entry{Origin: origin, Seq: ahead.Of[origin] + 1, Ahead: ahead, Command: c}
}

// replica is a number by which an array of all replicas can be asked, even if the frame is bad.
func (r *reader) replica() int {
	n := r.one()
	if n >= api.MaxReplicas {
		r.bad = true
		return 0
	}
	return n
}

func (r *reader) number() int {
	n := 0
	for shift := 0; shift < numberBits; shift += groupBits {
		b := r.one()
		n += b % goesOn << shift
		if b < goesOn {
			return n
		}
	}
	r.bad = true
	return 0
}

func (r *reader) text() string {
	return string(r.take(r.one()))
}

func (r *reader) one() int {
	b := r.take(1)
	if r.bad {
		return 0
	}
	return int(b[0])
}

func (r *reader) take(n int) []byte {
	if n > len(r.rest) {
		r.bad = true
		return nil
	}
	taken := r.rest[:n]
	r.rest = r.rest[n:]
	return taken
}
