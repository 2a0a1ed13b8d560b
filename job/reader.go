package job

import (
	"zoetrope/api"
	"zoetrope/reel"
	"zoetrope/scene"
	"zoetrope/track"
)

// reader takes the parts of a scene off bytes; behind an error all numbers are zero. Go makes the calls of a literal in the order in which they stand there, so the fields stand in the order of their bytes.
type reader struct{ *reel.Reader }

func (r reader) scene() scene.Scene {
	r.magic()
	s := scene.Scene{Header: r.header(), Lens: r.lens()}
	paints := r.many(api.MaxPaints, api.ErrPaint)
	tracks := r.many(api.MaxTracks, api.ErrTrack)
	joints := r.many(api.MaxJoints, api.ErrJoint)
	shapes := r.many(api.MaxShapes, api.ErrShape)
	s.Paints = list(paints, r.paint)
	s.Tracks = list(tracks, r.track)
	s.Joints = list(joints, r.joint)
	s.Shapes = list(shapes, r.shape)
	return s
}

// magic reads what every job begins with. ErrMagic: a byte is another one.
func (r reader) magic() {
	for _, b := range []byte(magic) {
		if r.Byte() != int(b) {
			r.Fail(api.ErrMagic)
		}
	}
}

// many is how many there are of a list. An error: more than may be.
func (r reader) many(most int, e api.Errno) int {
	n := r.Byte()
	if n > most {
		r.Fail(e)
		return 0
	}
	return n
}

// list is the next ones, so many.
func list[T any](many int, next func() T) []T {
	var l []T
	for range many {
		l = append(l, next())
	}
	return l
}

func (r reader) header() scene.Header {
	return scene.Header{
		Width: r.Half(), Height: r.Half(), Samples: r.Half(), Depth: r.Half(), Frames: r.Half(),
		Shutter: r.Fix(), Seed: r.Long(), Sky: r.Hue(),
	}
}

func (r reader) lens() scene.Lens {
	return scene.Lens{Eye: r.Half(), Look: r.Half(), Wide: r.Fix()}
}

func (r reader) paint() scene.Paint {
	return scene.Paint{Kind: r.Byte(), Color: r.Hue(), Rough: r.Fix()}
}

func (r reader) track() track.Track {
	return track.Track{Way: r.Byte(), Keys: list(r.many(api.MaxKeys, api.ErrTrack), r.key)}
}

func (r reader) key() track.Key {
	return track.Key{Time: r.Fix(), Value: r.Vec()}
}

func (r reader) joint() scene.Joint {
	return scene.Joint{Parent: r.Small(), Move: r.Small(), Turn: r.Small(), Size: r.Fix()}
}

// shape is the next shape. ErrShape: it is of another kind.
func (r reader) shape() scene.Shape {
	x := scene.Shape{Base: r.base(), Kind: r.Byte(), A: r.Vec()}
	switch x.Kind {
	case scene.Ball:
		x.Radius = r.Fix()
	case scene.Face:
		x.B, x.C = r.Vec(), r.Vec()
	default:
		r.Fail(api.ErrShape)
	}
	return x
}

func (r reader) base() scene.Base {
	return scene.Base{Joint: r.Small(), Paint: r.Half()}
}
