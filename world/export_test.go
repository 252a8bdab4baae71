package world

import "keelson/nand"

// Chip gives the chip that is in a chip's place now.
func (w *World) Chip(chip int) *nand.Chip { return w.chips[chip] }
