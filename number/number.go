// Package number lays numbers as bytes, the highest byte first: so do all that is written on a disk.
package number

// Bytes: so many of a number's bytes, the lowest ones; noughts ahead, if it has not as many.
func Bytes(n uint64, size int) []byte {
	out := make([]byte, max(size, 0))
	for i := range out {
		out[len(out)-1-i] = byte(n)
		n >>= 8
	}
	return out
}

// Of: the number of bytes; of more than eight the last ones count.
func Of(b []byte) uint64 {
	var n uint64
	for _, c := range b {
		n = n<<8 | uint64(c)
	}
	return n
}
