package hue

import (
	"zoetrope/api"
	"zoetrope/fix"
)

// Tone is how light of one kind is shown: a number from 0 to One, however much there is.
func Tone(x api.Fix) api.Fix {
	// Two numbers below 0 could have a quotient above it, and that a root.
	x = max(x, 0)
	return fix.Root(fix.Div(x, fix.Add(x, api.One)))
}

// Shade is the byte that is nearest to a number, from 0 to One.
func Shade(y api.Fix) byte {
	return byte((255*fix.Unit(y) + api.One/2) / api.One)
}

// Show is a light as three bytes.
func Show(a Hue) [3]byte {
	return [3]byte{Shade(Tone(a.R)), Shade(Tone(a.G)), Shade(Tone(a.B))}
}
