// Package pix is layer 1: see shared/doc/01-pix.md.
package pix

import (
	"cmp"
	"slices"

	"chequer/api"
)

const (
	sampleBits = 16
	countBits  = 3 * sampleBits // above all samples stands how many there are
)

// Pack is the pixel of samples.
func Pack(l ...int) (api.Pixel, api.Errno) {
	if !mayCount(len(l)) {
		return 0, api.ErrArg
	}
	for _, s := range l {
		if s < 0 || s > api.MaxSample {
			return 0, api.ErrRange
		}
	}
	return join(l...), api.OK
}

// Unpack is a pixel's samples.
func Unpack(p api.Pixel) []int {
	a, n := split(p)
	return slices.Clone(a[:n])
}

// May tells whether a pixel may be.
func May(p api.Pixel) bool {
	_, n := split(p)
	return n > 0
}

// Format tells whether a format may be.
func Format(f api.Format) bool {
	return mayCount(f.Channels) && mayMaxval(f.Maxval)
}

// Fits tells whether a pixel is of a format.
func Fits(p api.Pixel, f api.Format) bool {
	a, n := split(p)
	return n == f.Channels && Format(f) && slices.Max(a[:n]) <= f.Maxval
}

// Gray is a pixel of one sample.
func Gray(p api.Pixel) (api.Pixel, api.Errno) {
	a, n := split(p)
	switch n {
	case 1:
		return p, api.OK
	case 3:
		return join((299*a[0] + 587*a[1] + 114*a[2] + 500) / 1000), api.OK
	}
	return 0, api.ErrArg
}

// Turned is a pixel, dark for light.
func Turned(p api.Pixel, f api.Format) (api.Pixel, api.Errno) {
	if !Fits(p, f) {
		return 0, api.ErrArg
	}
	return each(p, func(s int) int { return f.Maxval - s }), api.OK
}

// Scaled is a pixel of another greatest sample.
func Scaled(p api.Pixel, from, to int) (api.Pixel, api.Errno) {
	_, n := split(p)
	if !mayMaxval(to) || !Fits(p, api.Format{Channels: n, Maxval: from}) {
		return 0, api.ErrArg
	}
	return each(p, func(s int) int { return (s*to + from/2) / from }), api.OK
}

// Compare is which pixel is greater.
func Compare(a, b api.Pixel) int { return cmp.Compare(a, b) }

func mayCount(n int) bool { return n == 1 || n == 3 }

func mayMaxval(n int) bool { return n >= 1 && n <= api.MaxSample }

// join takes samples that may be, as many as may be: Pack asks, others made them so.
func join(l ...int) api.Pixel {
	var samples api.Pixel
	for _, s := range l {
		samples = samples<<sampleBits | api.Pixel(s)
	}
	return api.Pixel(len(l))<<countBits | samples
}

// split is a pixel's samples, and how many there are: 0, if it is no pixel.
func split(p api.Pixel) ([3]int, int) {
	var a [3]int
	count := p >> countBits
	if count != 1 && count != 3 {
		return a, 0
	}
	n := int(count)
	rest := p - count<<countBits
	for i := n - 1; i >= 0; i-- {
		a[i] = int(rest & api.MaxSample)
		rest >>= sampleBits
	}
	if rest != 0 { // a single sample, and more above it
		return [3]int{}, 0
	}
	return a, n
}

// each is the pixel of what is made of every sample of p.
func each(p api.Pixel, made func(s int) int) api.Pixel {
	a, n := split(p)
	for i, s := range a[:n] {
		a[i] = made(s)
	}
	return join(a[:n]...)
}
