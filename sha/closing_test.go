package sha

import "testing"

// TestP201ClosingOfMany looks at the number of bits where it needs more than 32: to sum as many bytes would take long.
func TestP201ClosingOfMany(t *testing.T) {
	for n, want := range map[int][8]byte{
		1<<29 - 64:         {3: 0, 4: 255, 5: 255, 6: 254},
		1 << 29:            {3: 1},
		1<<31 - 64:         {3: 3, 4: 255, 5: 255, 6: 254},
		1<<29 + 1<<10 + 64: {3: 1, 6: 34},
	} {
		ends := closing(nil, n)
		if at := ends[0][size-8:]; [8]byte(at) != want || ends[0][0] != 128 || ends[1] != (block{}) {
			t.Errorf("closing(nil, %d): %x", n, ends)
		}
	}
	ends := closing(make([]byte, 63), 1<<31-1)
	if at := ends[1][size-8:]; [8]byte(at) != [8]byte{3: 3, 4: 255, 5: 255, 6: 255, 7: 248} || ends[0][63] != 128 {
		t.Errorf("closing of 63: %x", ends)
	}
}
