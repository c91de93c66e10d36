package crc

// said is a second reading of the chapter: the bits of the bytes, each byte's lowest first, and 32 noughts behind them, are one long number; its first 32 bits are turned round; it is divided by 1 04C11DB7, without carries, and what is left is turned round, its highest bit told as the lowest.
func said(b []byte) uint32 {
	const divisor = 1<<32 | 0x04C11DB7
	var left uint64
	for i := range 8*len(b) + 32 {
		var bit uint64
		if i < 8*len(b) {
			bit = uint64(b[i/8]>>(i%8)) & 1
		}
		if i < 32 {
			bit ^= 1
		}
		left = left<<1 | bit
		if left>>32 == 1 {
			left ^= divisor
		}
	}
	var out uint32
	for i := range 32 {
		if left>>(31-i)&1 == 0 {
			out |= 1 << i
		}
	}
	return out
}

// saidMore: the sum of four bytes whose sum this is, and b behind them.
func saidMore(sum uint32, b []byte) uint32 {
	return said(append(fourOf(sum), b...))
}

// fourOf: the four bytes whose sum this is. Four bytes are laid over the ones at the beginning, and then 32 bits are divided away: that is gone back, bit by bit.
func fourOf(sum uint32) []byte {
	left := ^sum
	for range 32 {
		if left>>31 == 1 {
			left = (left^0xEDB88320)<<1 | 1
		} else {
			left <<= 1
		}
	}
	left = ^left
	return []byte{byte(left), byte(left >> 8), byte(left >> 16), byte(left >> 24)}
}

// chance is numbers that look like chance, the same at each run.
type chance uint64

func (c *chance) next() uint32 {
	*c = *c*6364136223846793005 + 1442695040888963407
	return uint32(*c >> 32)
}

func (c *chance) below(n int) int { return int(c.next()>>1) % n }

func (c *chance) bytes(n int) []byte {
	out := make([]byte, n)
	for i := range out {
		out[i] = byte(c.next() >> 24)
	}
	return out
}

// sums: the edges among sums, each single bit, and some more.
func sums() []uint32 {
	out := []uint32{0, 1, 77, 0x7FFFFFFF, 0x80000000, 0xFFFFFFFE, 0xFFFFFFFF, 0xEDB88320, 0x04C11DB7, 0xCBF43926, 0xD202EF8D}
	for i := range 32 {
		out = append(out, 1<<i, ^(1 << i))
	}
	c := chance(15)
	for range 100 {
		out = append(out, c.next())
	}
	return out
}

// texts: ordinary ones, the edges, all noughts, all ones, and some of each short length.
func texts() [][]byte {
	out := [][]byte{nil, {}, []byte("123456789"), []byte("<b>1<p>2</b>3"), []byte("caf\u00E9 \u2603"), {0xFF, 0, 0xFF}}
	for n := range 70 {
		ones := make([]byte, n)
		for i := range ones {
			ones[i] = 0xFF
		}
		c := chance(n)
		out = append(out, make([]byte, n), ones, c.bytes(n))
	}
	return out
}
