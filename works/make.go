package works

import (
	"zoetrope/api"
	"zoetrope/film"
	"zoetrope/lace"
	"zoetrope/plate"
	"zoetrope/scene"
	"zoetrope/stamp"
	"zoetrope/warp"
)

// maker makes a work of some kind, of a frame that the scene has, and of just as many others as it needs.
type maker func(s scene.Scene, frame int, needs ...[]byte) ([]byte, api.Errno)

// makers tell who makes which kind.
func makers() [stamp.Kinds]maker {
	return [stamp.Kinds]maker{stamp.Trace: traced, stamp.Warp: warped, stamp.Lace: laced, stamp.Plate: plated}
}

// traced is a frame, as a film's bytes.
func traced(s scene.Scene, frame int, _ ...[]byte) ([]byte, api.Errno) {
	f, e := film.Render(s, frame)
	if e != api.OK {
		return nil, e
	}
	return film.Encode(f)
}

// warped is a frame's light, mixed with that of the frame ahead, if there is one, as a sheet's bytes: of its trace, that of the frame ahead, and the warp of that.
func warped(_ scene.Scene, frame int, needs ...[]byte) ([]byte, api.Errno) {
	now, e := film.Decode(needs[0])
	if e != api.OK {
		return nil, e
	}
	if frame == 0 {
		return sheet(warp.Alone(now))
	}
	was, e := film.Decode(needs[1])
	if e != api.OK {
		return nil, e
	}
	light, e := film.DecodeSheet(needs[2])
	if e != api.OK {
		return nil, e
	}
	return sheet(warp.Blend(now, was, light))
}

// laced is a frame's light, smoothed, as a sheet's bytes: of its trace and its warp.
func laced(_ scene.Scene, _ int, needs ...[]byte) ([]byte, api.Errno) {
	f, e := film.Decode(needs[0])
	if e != api.OK {
		return nil, e
	}
	light, e := film.DecodeSheet(needs[1])
	if e != api.OK {
		return nil, e
	}
	return sheet(lace.Smooth(f, light))
}

// plated is a frame's picture, as a file: of its lace.
func plated(_ scene.Scene, _ int, needs ...[]byte) ([]byte, api.Errno) {
	light, e := film.DecodeSheet(needs[0])
	if e != api.OK {
		return nil, e
	}
	p, e := plate.Show(light)
	if e != api.OK {
		return nil, e
	}
	return plate.Encode(p)
}

// sheet is a sheet as bytes, or the error that there is instead of it.
func sheet(s film.Sheet, e api.Errno) ([]byte, api.Errno) {
	if e != api.OK {
		return nil, e
	}
	return film.EncodeSheet(s)
}
