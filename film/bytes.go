package film

import (
	"zoetrope/api"
	"zoetrope/reel"
)

// EncodeSheet is a sheet as bytes. ErrArg: it may not be.
func EncodeSheet(s Sheet) ([]byte, api.Errno) {
	if !s.Right() {
		return nil, api.ErrArg
	}
	w := writer{reel.New()}
	w.sheet(s)
	return w.Bytes(), api.OK
}

// DecodeSheet is the sheet that some bytes are. What is wrong with them as they are read; ErrForm: the size may not be.
func DecodeSheet(b []byte) (Sheet, api.Errno) {
	r := reader{reel.Read(b)}
	s := r.sheet()
	if e := r.End(); e != api.OK {
		return Sheet{}, e
	}
	return s, api.OK
}

// Encode is a film as bytes. ErrArg: it may not be.
func Encode(f Film) ([]byte, api.Errno) {
	if !f.Right() {
		return nil, api.ErrArg
	}
	w := writer{reel.New()}
	w.film(f)
	return w.Bytes(), api.OK
}

// Decode is the film that some bytes are. What is wrong with them as they are read; ErrForm: the size, or at last the film, may not be.
func Decode(b []byte) (Film, api.Errno) {
	r := reader{reel.Read(b)}
	f := r.film()
	if e := r.End(); e != api.OK {
		return Film{}, e
	}
	if !f.Right() {
		return Film{}, api.ErrForm
	}
	return f, api.OK
}

// writer lays sheets and films that may be.
type writer struct{ *reel.Writer }

func (w writer) sheet(s Sheet) {
	w.Half(s.Width, s.Height)
	w.Hue(s.Light...)
}

func (w writer) film(f Film) {
	w.sheet(f.Sheet)
	w.Fix(f.Depth...)
	w.Vec(f.Normal...)
	w.Hue(f.Base...)
	w.Half(f.Shape...)
	w.Half(f.Flow...)
}

// reader takes sheets and films off bytes; behind an error all numbers are zero.
type reader struct{ *reel.Reader }

// size is the next size. ErrForm: it may not be; it is zero then, so that nobody reads on for so many pixels.
func (r reader) size() Size {
	s := Size{Width: r.Half(), Height: r.Half()}
	if !s.Right() {
		r.Fail(api.ErrForm)
		return Size{}
	}
	return s
}

func (r reader) sheet() Sheet {
	s := Sheet{Size: r.size()}
	s.Light = list(s.Pixels(), r.Hue)
	return s
}

func (r reader) film() Film {
	f := Film{Sheet: r.sheet()}
	n := f.Pixels()
	f.Depth = list(n, r.Fix)
	f.Normal = list(n, r.Vec)
	f.Base = list(n, r.Hue)
	f.Shape = list(n, r.Small)
	f.Flow = list(n, r.Small)
	return f
}

// list is the next ones, so many.
func list[T any](many int, next func() T) []T {
	var l []T
	for range many {
		l = append(l, next())
	}
	return l
}
