package disk

// store is what stands on a disk. Of the log the first bytes are synced; the snapshot always is.
type store struct {
	log    []byte
	synced int
	snap   []byte
}

// size is how much room it takes.
func (s *store) size() int { return len(s.log) + len(s.snap) }

func (s *store) add(b []byte) { s.log = append(s.log, b...) }

func (s *store) sync() { s.synced = len(s.log) }

func (s *store) cut(n int) {
	s.log = s.log[:n]
	s.sync()
}

func (s *store) swap(b []byte) { *s = store{snap: copied(b)} }

// lose leaves, of the bytes that are not synced, as many as pick says: none, or some, or all.
func (s *store) lose(pick int) int {
	ways := len(s.log) - s.synced + 1
	n := pick % ways
	if n < 0 { // the language's remainder has the sign of pick
		n += ways
	}
	s.cut(s.synced + n)
	return n
}

// copied is b in new memory: nobody outside has what stands on a disk.
func copied(b []byte) []byte {
	c := make([]byte, len(b))
	copy(c, b)
	return c
}
