package world

import (
	"keelson/api"
	"keelson/fs"
	"keelson/mirror"
	"keelson/nand"
)

// Do lets something happen.
func (w *World) Do(e api.Event) api.Answer {
	a := w.happen(e)
	if w.Off() {
		w.files = nil
	}
	return a
}

// happen lets something happen, whether there is power behind it or not.
func (w *World) happen(e api.Event) api.Answer {
	var code api.Errno
	switch e.Kind {
	case api.EvOp:
		if w.Mounted() {
			return w.files.Do(e.Op)
		}
		code = api.ErrStep
	case api.EvMount:
		code = w.mount(e.N, e.Keep)
	case api.EvCut:
		w.Cut(e.N, e.Keep)
	case api.EvFail, api.EvFlip, api.EvDie, api.EvOut, api.EvIn, api.EvNew:
		code = w.bend(e)
	case api.EvResync, api.EvScrub:
		code = w.step(e.Kind)
	default:
		code = api.ErrStep
	}
	return api.Answer{Code: code}
}

// mount lets there be power, for so many acts less 1 if they are any, and mounts what the chips hold.
func (w *World) mount(acts, keep int) api.Errno {
	w.On()
	if acts > 0 {
		w.Cut(acts-1, keep)
	}
	w.files = nil
	m, e := mirror.Open(w.tie, w.chips[0], w.chips[1])
	if e != api.OK {
		return e
	}
	return w.hold(fs.Mount(m))
}

// bend lets something become of a chip.
func (w *World) bend(e api.Event) api.Errno {
	if !isChip(e.Chip) {
		return api.ErrStep
	}
	c := w.chips[e.Chip]
	switch e.Kind {
	case api.EvFail:
		c.Fail(e.Keep == 0, e.N)
	case api.EvFlip:
		// Of a number below 0 the block or the page is below 0, too, which no chip has.
		return c.Flip(e.N/api.BlockPages, e.N%api.BlockPages, e.Keep)
	case api.EvDie:
		c.Die()
	case api.EvOut, api.EvIn:
		c.Put(e.Kind == api.EvIn)
	case api.EvNew:
		return w.replace(e.Chip)
	}
	return api.OK
}

// replace puts a blank chip in a chip's place.
func (w *World) replace(chip int) api.Errno {
	c, e := nand.New(w.Power, w.chips[chip].Blocks())
	if e != api.OK {
		return e
	}
	w.chips[chip] = c
	if w.Mounted() {
		w.files.Replace(chip, c)
	}
	return api.OK
}

// step does a step of the resync, or of the scrub.
func (w *World) step(kind int) api.Errno {
	if !w.Mounted() {
		return api.ErrStep
	}
	if kind == api.EvResync {
		_, e := w.files.back.Step()
		return e
	}
	_, e := w.files.scrub.Step()
	return e
}
