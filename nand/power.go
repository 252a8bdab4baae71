package nand

// Power is what chips run on.
type Power struct {
	off   bool
	ends  bool // in the act that comes behind after other ones
	after int
	keep  int // how much of that act is done
}

// NewPower gives power that lasts.
func NewPower() *Power { return &Power{} }

// Cut lets the power end.
func (p *Power) Cut(after, keep int) {
	p.ends, p.after, p.keep = after >= 0, after, keep
}

// On lets the power be there again.
func (p *Power) On() { *p = Power{} }

// Off tells whether the power is off.
func (p *Power) Off() bool { return p.off }

// draw gives an act its power, and tells whether that ends in it, and how much of the act is kept then.
func (p *Power) draw() (keep int, ends bool) {
	if !p.ends {
		return 0, false
	}
	if p.after > 0 {
		p.after--
		return 0, false
	}
	p.off = true
	return p.keep, true
}
