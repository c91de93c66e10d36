package number

import (
	"bytes"
	"encoding/binary"
	"math"
	"testing"
)

// P16.1, P19.1: numbers as the library lays them, in each size.
func TestAsTheLibrary(t *testing.T) {
	for _, n := range []uint64{0, 1, 255, 256, 65535, 65536, 1 << 31, 1<<32 - 1, 1 << 32, 0x0102030405060708, 1 << 63, math.MaxUint64} {
		want := binary.BigEndian.AppendUint64(nil, n)
		for size := range 9 {
			got := Bytes(n, size)
			if !bytes.Equal(got, want[8-size:]) {
				t.Errorf("Bytes(%d, %d): %v", n, size, got)
			}
			if size < 8 && Of(got) != n&(1<<(8*size)-1) {
				t.Errorf("Of(%v): %d", got, Of(got))
			}
		}
		if Of(want) != n {
			t.Errorf("Of(%v): %d", want, Of(want))
		}
	}
}

// R1: sizes that no number has.
func TestOtherSizes(t *testing.T) {
	for _, size := range []int{0, -1, math.MinInt} {
		if got := Bytes(7, size); len(got) != 0 {
			t.Errorf("Bytes(7, %d): %v", size, got)
		}
	}
	if got := Bytes(0x0203, 10); !bytes.Equal(got, []byte{0, 0, 0, 0, 0, 0, 0, 0, 2, 3}) {
		t.Errorf("Bytes of ten: %v", got)
	}
	if Of(nil) != 0 || Of([]byte{9, 9, 0, 0, 0, 0, 0, 0, 1, 2}) != 258 {
		t.Errorf("Of: %d, %d", Of(nil), Of([]byte{9, 9, 0, 0, 0, 0, 0, 0, 1, 2}))
	}
}

// R4: what is told is new memory, and what is handed in stays.
func TestOwnMemory(t *testing.T) {
	a, b := Bytes(258, 4), Bytes(258, 4)
	a[3] = 77
	if !bytes.Equal(b, []byte{0, 0, 1, 2}) || Of(b) != 258 || !bytes.Equal(b, []byte{0, 0, 1, 2}) {
		t.Errorf("now it is %v", b)
	}
}
