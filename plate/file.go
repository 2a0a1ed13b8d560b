package plate

import (
	"slices"
	"strconv"

	"zoetrope/api"
	"zoetrope/film"
)

// What stands in the head of a file: ahead of the size, between and behind its numbers, and behind it.
const (
	magic = "P6\n"
	blank = ' '
	feed  = '\n'
	depth = "255\n"
)

// digits is how many digits a side's number has at most.
const digits = 2

// dot is how many bytes a pixel takes.
const dot = 3

// Encode is a picture as a file. ErrArg: it may not be.
func Encode(p Picture) ([]byte, api.Errno) {
	if !p.Right() {
		return nil, api.ErrArg
	}
	b := head(p.Size)
	for _, d := range p.Dots {
		b = append(b, d[:]...)
	}
	return b, api.OK
}

// Decode is the picture that a file is. ErrMagic: it doesn't begin like one; ErrForm: its head isn't one, or its size may not be; ErrShort: there are too few bytes; ErrForm: there are too many.
func Decode(b []byte) (Picture, api.Errno) {
	b, ok := without(b, magic)
	if !ok {
		return Picture{}, api.ErrMagic
	}
	s, b, ok := size(b)
	if !ok || !s.Right() {
		return Picture{}, api.ErrForm
	}
	if b, ok = without(b, depth); !ok {
		return Picture{}, api.ErrForm
	}
	if n := dot * s.Pixels(); len(b) < n {
		return Picture{}, api.ErrShort
	} else if len(b) > n {
		return Picture{}, api.ErrForm
	}
	p := Picture{Size: s}
	for d := range slices.Chunk(b, dot) {
		p.Dots = append(p.Dots, [dot]byte(d))
	}
	return p, api.OK
}

// Bytes is how many bytes the file of a picture of a size has; 0, if the size may not be.
func Bytes(s film.Size) int {
	if !s.Right() {
		return 0
	}
	return len(head(s)) + dot*s.Pixels()
}

// head is what stands ahead of a picture's bytes.
func head(s film.Size) []byte {
	b := []byte(magic)
	b = append(strconv.AppendInt(b, int64(s.Width), 10), blank)
	b = append(strconv.AppendInt(b, int64(s.Height), 10), feed)
	return append(b, depth...)
}

// without is what follows some text, if the bytes begin with it.
func without(b []byte, text string) ([]byte, bool) {
	if len(b) < len(text) || string(b[:len(text)]) != text {
		return nil, false
	}
	return b[len(text):], true
}

// size is the size that some bytes begin with, and what follows it, if there is one.
func size(b []byte) (film.Size, []byte, bool) {
	width, b, ok := side(b, blank)
	if !ok {
		return film.Size{}, nil, false
	}
	height, b, ok := side(b, feed)
	return film.Size{Width: width, Height: height}, b, ok
}

// side is the number that some bytes begin with, up to its end, and what follows that, if there is one.
func side(b []byte, end byte) (int, []byte, bool) {
	n := 0
	for i, c := range b {
		if c == end && i > 0 {
			return n, b[i+1:], true
		}
		if i == digits || c < '0' || c > '9' || c == '0' && i == 0 {
			break
		}
		n = 10*n + int(c-'0')
	}
	return 0, nil, false
}
