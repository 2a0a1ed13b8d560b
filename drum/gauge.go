package drum

import "zoetrope/api"

// none is a fuse with which the power doesn't go; any one below 0 is as good.
const none = -1

// gauge is what a device tells of itself: its size, its steps, and its power.
type gauge struct {
	size  int
	steps int
	fuse  int
	down  bool
}

// has tells whether there is such a block.
func (g *gauge) has(at int) bool { return at >= 0 && at < g.size }

// step counts a step that is about to be done. ErrDown: the fuse is 0; then the power is gone.
func (g *gauge) step() api.Errno {
	if g.fuse == 0 {
		g.down = true
		return api.ErrDown
	}
	if g.fuse > 0 {
		g.fuse--
	}
	g.steps++
	return api.OK
}

// start lets the power come again.
func (g *gauge) start() { g.down, g.fuse = false, none }
