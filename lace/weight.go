package lace

import (
	"zoetrope/api"
	"zoetrope/film"
	"zoetrope/fix"
	"zoetrope/hue"
	"zoetrope/vec"
)

// depthEdge is how much it weighs that depths are apart.
const depthEdge = 4 * api.One

// weight is how much a pixel counts for another one, however far they are from one another.
func (p *picture) weight(a, b int) api.Fix {
	if a == b {
		return api.One
	}
	apart := hue.Diff(p.sheet.Light[a], p.sheet.Light[b])
	return fix.Mul(alike(&p.film, a, b), lessening(p.edge, apart))
}

// alike is how much two pixels of a film show what could be one surface.
func alike(f *film.Film, a, b int) api.Fix {
	switch {
	case seen(f, a) != seen(f, b):
		return 0
	case !seen(f, a):
		return api.One
	}
	apart := fix.Abs(fix.Sub(f.Depth[a], f.Depth[b]))
	return fix.Mul(fix.Unit(vec.Dot(f.Normal[a], f.Normal[b])), lessening(depthEdge, apart))
}

// seen says whether a shape is seen at a pixel.
func seen(f *film.Film, i int) bool { return f.Shape[i] >= 0 }

// lessening is One of what isn't apart, and the less, the more it is apart.
func lessening(edge, apart api.Fix) api.Fix {
	return fix.Div(api.One, fix.Add(api.One, fix.Mul(edge, apart)))
}
