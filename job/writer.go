package job

import (
	"zoetrope/reel"
	"zoetrope/scene"
	"zoetrope/track"
)

// writer lays the parts of a scene that breaks no rule.
type writer struct{ *reel.Writer }

func (w writer) scene(s scene.Scene) {
	for _, b := range []byte(magic) {
		w.Byte(int(b))
	}
	w.header(s.Header)
	w.lens(s.Lens)
	w.Byte(len(s.Paints), len(s.Tracks), len(s.Joints), len(s.Shapes))
	for _, p := range s.Paints {
		w.paint(p)
	}
	for _, t := range s.Tracks {
		w.track(t)
	}
	for _, j := range s.Joints {
		w.joint(j)
	}
	for _, x := range s.Shapes {
		w.shape(x)
	}
}

func (w writer) header(h scene.Header) {
	w.Half(h.Width, h.Height, h.Samples, h.Depth, h.Frames)
	w.Fix(h.Shutter)
	w.Long(h.Seed)
	w.Hue(h.Sky)
}

func (w writer) lens(l scene.Lens) {
	w.Half(l.Eye, l.Look)
	w.Fix(l.Wide)
}

func (w writer) paint(p scene.Paint) {
	w.Byte(p.Kind)
	w.Hue(p.Color)
	w.Fix(p.Rough)
}

func (w writer) track(t track.Track) {
	w.Byte(t.Way, len(t.Keys))
	for _, k := range t.Keys {
		w.Fix(k.Time)
		w.Vec(k.Value)
	}
}

func (w writer) joint(j scene.Joint) {
	w.Half(j.Parent, j.Move, j.Turn)
	w.Fix(j.Size)
}

func (w writer) shape(x scene.Shape) {
	w.Half(x.Joint, x.Paint)
	w.Byte(x.Kind)
	w.Vec(x.Corners()...)
	if x.Kind == scene.Ball {
		w.Fix(x.Radius)
	}
}
