package vip

import (
	"vesper/api"
	"vesper/frame"
	"vesper/tone"
)

// film is what a machine's records show; ahead of them the raster stood so. Frames and beeps are looked for beside one another.
func film(ahead api.Raster, l []api.Record) api.Film {
	frames := make(chan api.Frame)
	// With room for the one answer, who looks for beeps is done when they are found, however long frames take.
	beeps := make(chan []api.Beep, 1)
	go sendFrames(frames, ahead, l)
	go sendBeeps(beeps, l)
	f := api.Film{Records: l}
	for one := range frames {
		f.Frames = append(f.Frames, one)
	}
	f.Beeps = <-beeps
	return f
}

// sendFrames sends the whole frames of these records, one by one, and closes the channel behind the last one.
func sendFrames(to chan<- api.Frame, ahead api.Raster, l []api.Record) {
	defer close(to)
	// A machine's own raster and records may be, and no script has too many of them.
	found, _ := frame.Of(ahead, l)
	for _, one := range found {
		to <- one
	}
}

// sendBeeps sends the beeps of these records at one go: there may be one for every four cycles.
func sendBeeps(to chan<- []api.Beep, l []api.Record) { to <- tone.Beeps(l) }
