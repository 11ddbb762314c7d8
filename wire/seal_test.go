package wire

import (
	"bytes"
	"hash/crc32"
	"math/rand"
	"slices"
	"testing"

	"cartel/api"
	"cartel/history"
)

func drawBytes(r *rand.Rand, n int) []byte {
	b := make([]byte, n)
	r.Read(b)
	return b
}

func TestSum(t *testing.T) {
	if got := sum([]byte("123456789")); got != 0xcbf43926 {
		t.Errorf("sum of the digits is %#x", got)
	}
	r := rand.New(rand.NewSource(1))
	for n := range 300 {
		b := drawBytes(r, n)
		if got, want := sum(b), crc32.ChecksumIEEE(b); got != want {
			t.Errorf("sum(%v) = %#x, want %#x", b, got, want)
		}
	}
	for b := range 256 {
		if got, want := sum([]byte{byte(b)}), crc32.ChecksumIEEE([]byte{byte(b)}); got != want {
			t.Errorf("sum of %d is %#x, want %#x", b, got, want)
		}
	}
}

func TestSealedBodies(t *testing.T) {
	r := rand.New(rand.NewSource(1))
	for n := range room + 1 {
		body := drawBytes(r, n)
		frame := seal(body)
		if len(frame) > api.MaxFrame {
			t.Errorf("%d bytes make a frame of %d", n, len(frame))
		}
		if got, ok := unseal(frame); !ok || !bytes.Equal(got, body) {
			t.Errorf("unseal(%v) = %v, %v", frame, got, ok)
		}
	}
	if _, ok := unseal(seal(make([]byte, room+1))); ok {
		t.Errorf("a frame of more than MaxFrame bytes is taken")
	}
}

// wantSpoilt asks that no bytes are told as the body of the frame.
func wantSpoilt(t *testing.T, frame []byte) {
	t.Helper()
	if body, ok := unseal(frame); ok {
		t.Fatalf("unseal(%v) = %v", frame, body)
	}
	if l, ok := Read(frame); ok || l.Entries != nil {
		t.Fatalf("Read(%v) = %v, %v", frame, l, ok)
	}
}

// sealed has frames of all lengths: of bytes that are drawn, and of letters.
func sealed(t *testing.T) [][]byte {
	r := rand.New(rand.NewSource(1))
	var frames [][]byte
	for n := 0; n <= room; n += 1 + n/4 {
		frames = append(frames, seal(drawBytes(r, n)), seal(make([]byte, n)))
	}
	frames = append(frames, seal(make([]byte, room)))
	for n := range 10 {
		l := Letter{From: 1, To: 0, Heard: n, Entries: slices.Repeat([]history.Entry{entry(t, 1, "remove abcdefgh")}, n)}
		frames = append(frames, Write(l)...)
	}
	return frames
}

func TestOneByteChanged(t *testing.T) {
	for _, frame := range sealed(t) {
		for i, was := range frame {
			for b := range 256 {
				if frame[i] = byte(b); frame[i] != was {
					wantSpoilt(t, frame)
				}
			}
			frame[i] = was
		}
	}
}

func TestCut(t *testing.T) {
	for _, frame := range sealed(t) {
		for n := range frame {
			wantSpoilt(t, frame[:n])
		}
	}
	wantSpoilt(t, nil)
}

func TestBytesBehind(t *testing.T) {
	frames := sealed(t)
	for _, frame := range frames {
		for _, behind := range frames {
			wantSpoilt(t, slices.Concat(frame, behind))
		}
		for b := range 256 {
			wantSpoilt(t, append(bytes.Clone(frame), byte(b)))
		}
		for n := 1; n <= 600; n++ { // with 256 more the length has the same last byte
			wantSpoilt(t, append(bytes.Clone(frame), make([]byte, n)...))
		}
	}
}

// TestLengthIsNotLeftToSum: bytes behind that make the sum right again.
func TestLengthIsNotLeftToSum(t *testing.T) {
	r := rand.New(rand.NewSource(1))
	for range 1000 {
		frame := append(seal(drawBytes(r, r.Intn(100))), drawBytes(r, r.Intn(90))...)
		s := sum(frame)
		wantSpoilt(t, append(frame, byte(s), byte(s>>8), byte(s>>16), byte(s>>24)))
	}
}
