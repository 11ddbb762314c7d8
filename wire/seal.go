package wire

import (
	"bytes"

	"cartel/api"
)

// A frame is a byte that says how long it is, the body, and four bytes with the sum of all that is ahead of them. By its length any frame that was cut, or has bytes behind it, is told for certain; by its sum any in which one byte was changed.
const (
	lengthSize = 1
	sumSize    = 4
	room       = api.MaxFrame - lengthSize - sumSize // for the body
)

func seal(body []byte) []byte {
	frame := append([]byte{byte(lengthSize + len(body) + sumSize)}, body...)
	s := sum(frame)
	return append(frame, byte(s), byte(s>>8), byte(s>>16), byte(s>>24))
}

// unseal answers the body, or false for a frame that was spoilt. A longer one than MaxFrame is stopped ahead of the rest, as its length has no room in a byte.
func unseal(frame []byte) ([]byte, bool) {
	if len(frame) < lengthSize+sumSize || len(frame) > api.MaxFrame {
		return nil, false
	}
	body := frame[lengthSize : len(frame)-sumSize]
	if !bytes.Equal(seal(body), frame) {
		return nil, false
	}
	return body, true
}

// remainders has what each four bits leave in the sum when they have gone out of it: it is CRC-32 with the polynomial 0xedb88320, four bits a step because a table for eight would be long.
var remainders = [16]uint32{
	0x00000000, 0x1db71064, 0x3b6e20c8, 0x26d930ac,
	0x76dc4190, 0x6b6b51f4, 0x4db26158, 0x5005713c,
	0xedb88320, 0xf00f9344, 0xd6d6a3e8, 0xcb61b38c,
	0x9b64c2b0, 0x86d3d2d4, 0xa00ae278, 0xbdbdf21c,
}

func sum(data []byte) uint32 {
	s := ^uint32(0)
	for _, b := range data {
		s ^= uint32(b)
		s = s>>4 ^ remainders[s%16]
		s = s>>4 ^ remainders[s%16]
	}
	return ^s
}
