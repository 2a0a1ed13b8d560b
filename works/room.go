package works

import (
	"zoetrope/api"
	"zoetrope/film"
	"zoetrope/job"
	"zoetrope/plate"
	"zoetrope/scene"
	"zoetrope/stamp"
	"zoetrope/vault"
)

// How many bytes stand ahead of the pixels of a film and of a sheet, and how many each pixel takes there.
const (
	head       = 4
	filmPixel  = 54
	sheetPixel = 15
)

// Size is how many bytes a work of a kind has, of pictures of a size; 0, if there is no such kind, or the size may not be.
func Size(kind int, s film.Size) int {
	if !s.Right() {
		return 0
	}
	switch kind {
	case stamp.Trace:
		return head + filmPixel*s.Pixels()
	case stamp.Warp, stamp.Lace:
		return head + sheetPixel*s.Pixels()
	case stamp.Plate:
		return plate.Bytes(s)
	}
	return 0
}

// Bound is how many slots, and how many blocks, a scene's job takes at most, with all its works; none of a scene that breaks a rule.
func Bound(s scene.Scene) (many, blocks int) {
	b, e := job.Encode(s)
	if e != api.OK {
		return 0, 0
	}
	size := film.Size{Width: s.Width, Height: s.Height}
	frame := 0
	for kind := range stamp.Kinds {
		frame += vault.Need(Size(kind, size))
	}
	return 1 + stamp.Kinds*s.Frames, vault.Need(len(b)) + s.Frames*frame
}

// Fits says whether a device of so many blocks has as many slots, and as many blocks behind them. A scene that breaks a rule has no works that could fit.
func Fits(s scene.Scene, blocks int) bool {
	many, need := Bound(s)
	slots := vault.Slots(blocks)
	return many != 0 && slots >= many && blocks-slots >= need
}
