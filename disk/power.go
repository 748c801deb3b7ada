package disk

// power may be gone, or be about to go.
type power struct {
	dead  bool
	stop  int // at which operation it goes, counted from when that was said; below 1: at none
	count int // how many there were since then; one that was refused is none
}

// spend takes an operation's power, which may be the last.
func (p *power) spend() {
	p.count++
	p.dead = p.count == p.stop
}

// even tells whether an operation that has no middle is done where the power goes at it.
func (p *power) even() bool { return p.stop%2 == 0 }
