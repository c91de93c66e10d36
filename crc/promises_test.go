package crc

import (
	"bytes"
	"slices"
	"testing"
)

// P15.2: cut at every place, at both of every two, and byte by byte.
func TestCutAnywhere(t *testing.T) {
	for _, b := range texts() {
		whole := Sum(b)
		one := Sum(nil)
		for i := range len(b) + 1 {
			ahead := Sum(b[:i])
			moreIs(t, ahead, b[i:], whole)
			for j := i; j <= len(b); j++ {
				moreIs(t, More(ahead, b[i:j]), b[j:], whole)
			}
			if one != ahead {
				t.Errorf("%d bytes one by one: %08X, not %08X", i, one, ahead)
			}
			if i < len(b) {
				one = More(one, b[i:i+1])
			}
		}
	}
}

// P15.2: many pieces, of no bytes some of them, behind any sum too.
func TestManyPieces(t *testing.T) {
	for seed := range 300 {
		c := chance(seed)
		b := c.bytes(c.below(3000))
		begun := c.next() * uint32(seed%2)
		got := begun
		for at := 0; at < len(b); {
			to := min(at+c.below(1+c.below(400)), len(b))
			got = More(got, b[at:to])
			at = to
		}
		if want := saidMore(begun, b); got != want {
			t.Errorf("%d bytes in pieces, behind %08X: %08X, not %08X", len(b), begun, got, want)
		}
	}
}

// P15.2: a long text in pieces of one size.
func TestLongPieces(t *testing.T) {
	c := chance(152)
	b := c.bytes(1 << 17)
	whole := said(b)
	for _, size := range []int{1, 2, 3, 39, 60, 64, 252, 256, 4096, 1 << 16, 1 << 18} {
		var got uint32
		for piece := range slices.Chunk(b, size) {
			got = More(got, nil)
			got = More(got, piece)
		}
		if got != whole {
			t.Errorf("pieces of %d bytes: %08X, not %08X", size, got, whole)
		}
	}
}

// P15.3: each byte made each other one; behind any sum too; and what is made as it was has its sum again.
func TestOneByte(t *testing.T) {
	for _, b := range texts() {
		b = slices.Clone(b)
		sum, more := Sum(b), More(77, b)
		for at := range b {
			was := b[at]
			for by := 1; by < 256; by++ {
				b[at] = was ^ byte(by)
				if Sum(b) == sum || More(77, b) == more {
					t.Fatalf("%q: byte %d was another one: the same sum", b, at)
				}
			}
			b[at] = was
		}
		sumIs(t, b, sum)
	}
}

// P15.3: all that a byte may be at one place have sums of their own.
func TestOneByteAmongAll(t *testing.T) {
	for _, n := range []int{1, 2, 4, 5, 60, 64, 256} {
		c := chance(n)
		b := c.bytes(n)
		for _, at := range []int{0, n / 2, n - 1} {
			seen := map[uint32]int{}
			for i := range 256 {
				b[at] = byte(i)
				if other, ok := seen[Sum(b)]; ok {
					t.Fatalf("of %d bytes the one at %d is %d, or %d: the same sum", n, at, i, other)
				}
				seen[Sum(b)] = i
			}
		}
	}
}

// P15.3: by one bit, and by all, at the places of a block, of a record and of a long text.
func TestOneByteOfMany(t *testing.T) {
	for _, n := range []int{256, 6000, 1 << 18} {
		c := chance(n)
		for _, b := range [][]byte{c.bytes(n), make([]byte, n), bytes.Repeat([]byte{0xFF}, n)} {
			sum := Sum(b)
			for at := 0; at < n; at += 1 + n/50 {
				for _, by := range []byte{1, 2, 4, 8, 16, 32, 64, 128, 0xFF} {
					b[at] ^= by
					if Sum(b) == sum {
						t.Fatalf("%d bytes, the one at %d is another one by %d: the same sum", n, at, by)
					}
					b[at] ^= by
				}
			}
		}
	}
}
