package nand

// faults tells which acts of one kind fail.
type faults struct {
	done  int              // how many acts there were since this was told
	which map[int]struct{} // the numbers of those that are still to fail
}

// newFaults gives the faults at the acts with these numbers.
func newFaults(which []int) faults {
	f := faults{which: map[int]struct{}{}}
	for _, n := range which {
		if n >= 0 {
			f.which[n] = struct{}{}
		}
	}
	return f
}

// count counts an act, and tells whether it fails.
func (f *faults) count() bool {
	_, fails := f.which[f.done]
	delete(f.which, f.done)
	f.done++
	return fails
}
