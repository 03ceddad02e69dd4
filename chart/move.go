package chart

import (
	"rookery/api"
	"rookery/num"
)

// moved: what is a float64 already is converted, since without that the
// language lets a machine fuse two steps into one and skip a rounding.
func moved(own, z complex128, trip int) complex128 {
	d := own - z
	s := square(d)
	if s == 0 {
		return own
	}
	w := float64(float64(trip) * float64(trip))
	g := float64(float64(w-s)/float64(float64(w+s)+1)) / 64
	x := real(own) + float64(real(d)*g)
	y := imag(own) + float64(imag(d)*g)
	t, e := num.Cx(complex(x, y))
	if e != api.OK {
		return own
	}
	return t.Z
}

func square(d complex128) float64 {
	return float64(real(d)*real(d)) + float64(imag(d)*imag(d))
}
