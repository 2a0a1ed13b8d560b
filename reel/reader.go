package reel

import (
	"slices"

	"zoetrope/api"
	"zoetrope/hue"
)

// Reader takes values off bytes, one behind the other; behind an error all of them are zero.
type Reader struct {
	left []byte
	err  api.Errno
}

// Read reads bytes from their beginning on.
func Read(b []byte) *Reader { return &Reader{left: slices.Clone(b)} }

// take is the next bytes, so many, not yet copied; none behind an error. ErrShort: there are fewer.
func (r *Reader) take(size int) []byte {
	if r.Err() != api.OK {
		return nil
	}
	if size > len(r.left) {
		r.Fail(api.ErrShort)
		return nil
	}
	p := r.left[:size]
	r.left = r.left[size:]
	return p
}

// number is the next number of so many bytes.
func (r *Reader) number(size int) uint64 {
	var n uint64
	for i, b := range r.take(size) {
		n |= uint64(b) << (8 * i)
	}
	return n
}

// Byte is the next number of one byte.
func (r *Reader) Byte() int { return int(r.number(byteSize)) }

// Half is the next number of two bytes.
func (r *Reader) Half() int { return int(r.number(halfSize)) }

// Word is the next number of four bytes.
func (r *Reader) Word() int { return int(r.number(wordSize)) }

// Long is the next number of eight bytes.
func (r *Reader) Long() uint64 { return r.number(longSize) }

// Small is the next number of two bytes, from -2^15 on, below 2^15.
func (r *Reader) Small() int { return int(int16(r.number(halfSize))) }

// Fix is the next number of layer 1. ErrOver: it isn't from -Most to Most.
func (r *Reader) Fix() api.Fix {
	// Up and down again, so that the highest bit that was laid fills all those above it: it is the sign.
	const above = 64 - 8*fixSize
	n := api.Fix(r.number(fixSize)<<above) >> above
	if n < -api.Most || n > api.Most {
		r.Fail(api.ErrOver)
		return 0
	}
	return n
}

// three is the next three numbers of layer 1; zeros, if one of them is wrong.
func (r *Reader) three() [3]api.Fix {
	l := [3]api.Fix{}
	for i := range l {
		l[i] = r.Fix()
	}
	if r.Err() != api.OK {
		return [3]api.Fix{}
	}
	return l
}

// Vec is the next point.
func (r *Reader) Vec() api.Vec {
	l := r.three()
	return api.Vec{X: l[0], Y: l[1], Z: l[2]}
}

// Hue is the next light.
func (r *Reader) Hue() hue.Hue {
	l := r.three()
	return hue.Hue{R: l[0], G: l[1], B: l[2]}
}

// Sum is the next sum.
func (r *Reader) Sum() api.Digest {
	d := api.Digest{}
	copy(d[:], r.take(len(d)))
	return d
}

// Blob is the next bytes with their number. ErrLimit: there are more than most, whether or not they are there.
func (r *Reader) Blob(most int) []byte {
	// Held against each other ahead of becoming an int, which may be too short for what four bytes tell.
	size := r.number(wordSize)
	if size > uint64(max(most, 0)) {
		r.Fail(api.ErrLimit)
		return nil
	}
	return slices.Clone(r.take(int(size)))
}

// Fail notes what is wrong, if nothing was yet.
func (r *Reader) Fail(e api.Errno) {
	if r.Err() == api.OK {
		r.err = e
	}
}

// Left is how many bytes are left; none behind an error.
func (r *Reader) Left() int {
	if r.Err() != api.OK {
		return 0
	}
	return len(r.left)
}

// Err is what is wrong. ErrNil.
func (r *Reader) Err() api.Errno {
	if r == nil {
		return api.ErrNil
	}
	return r.err
}

// End is what is wrong, once all should be read. ErrNil; ErrForm: bytes are left, and nothing else is wrong.
func (r *Reader) End() api.Errno {
	if r.Left() > 0 {
		r.Fail(api.ErrForm)
	}
	return r.Err()
}
