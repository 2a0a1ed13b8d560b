package film

import (
	"zoetrope/api"
	"zoetrope/path"
	"zoetrope/pose"
	"zoetrope/scene"
	"zoetrope/vec"
	"zoetrope/view"
)

// Render is a frame of a scene. That of layer 17's Ready.
func Render(s scene.Scene, frame int) (Film, api.Errno) {
	set, e := path.Ready(s, frame)
	if e != api.OK {
		return Film{}, e
	}
	f := Film{Sheet: Sheet{Size: Size{Width: s.Width, Height: s.Height}}}
	was := pastOf(s, frame)
	for y := range f.Height {
		for x := range f.Width {
			seen := set.Pixel(x, y)
			f.add(seen, was.flow(seen, set.Placed(seen.Shape, seen.Part)))
		}
	}
	return f, api.OK
}

// add lays one more pixel behind those that a film has.
func (f *Film) add(seen path.Seen, flow int) {
	f.Light = append(f.Light, seen.Light)
	f.Depth = append(f.Depth, seen.Depth)
	f.Normal = append(f.Normal, seen.Normal)
	f.Base = append(f.Base, seen.Base)
	f.Shape = append(f.Shape, seen.Shape)
	f.Flow = append(f.Flow, flow)
}

// past is how all was as the shutter of the frame ahead opened: where the shapes were, and how one looked at them.
type past struct {
	view.View
	shapes []pose.Placed
}

// pastOf is a frame's past; the first one has none: nothing was there, and no view has any pixel.
func pastOf(s scene.Scene, frame int) past {
	if frame == 0 {
		return past{}
	}
	time := s.Open(frame - 1)
	return past{View: view.At(s, time), shapes: pose.Shapes(s, time)}
}

// flow is the pixel at which that was which is seen now, on a shape as it is placed now.
func (p past) flow(seen path.Seen, now pose.Placed) int {
	if seen.Shape == noShape || len(p.shapes) == 0 {
		return noPixel
	}
	moved := vec.Sub(now.P[0], p.shapes[seen.Shape].P[0])
	x, y, ok := p.Pixel(vec.Sub(seen.Point, moved))
	if !ok {
		return noPixel
	}
	return y*p.Width + x
}
