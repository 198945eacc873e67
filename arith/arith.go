// Package arith: Numbers of other widths: see doc/01-arith.md.
package arith

const (
	wordBits  = 64
	wordBytes = 8
	byteBits  = 8
	turnBits  = 32
	// mostBytes bounds what Bytes makes, however much is asked of it.
	mostBytes = 64
)

// Narrow answers v where a signed number of so many bits has it, and false elsewhere.
func Narrow(v int64, bits int) (int64, bool) {
	if bits < 1 || bits > wordBits || Wrap(v, bits) != v {
		return 0, false
	}
	return v, true
}

// Wrap answers v's lowest bits as a signed number of so many bits.
func Wrap(v int64, bits int) int64 {
	if bits < 1 {
		return 0
	}
	if bits >= wordBits {
		return v
	}
	above := wordBits - bits
	// The way back copies the new highest bit, the sign, into those above it.
	return v << above >> above
}

// Unsigned answers v where it is not below 0 and has at most so many bits, and false elsewhere.
func Unsigned(v int64, bits int) (uint64, bool) {
	// 64 is no width here: a v that is not below 0 has 63 bits at most.
	if bits < 0 || bits >= wordBits || v < 0 || v>>bits != 0 {
		return 0, false
	}
	return uint64(v), true
}

// Low answers v's lowest n bits.
func Low(v uint64, n int) uint64 {
	if n < 1 {
		return 0
	}
	if n >= wordBits {
		return v
	}
	above := wordBits - n
	return v << above >> above
}

// Rotate answers v turned to the left by n; a negative n turns it to the right.
func Rotate(v uint32, n int) uint32 {
	// A whole turn is a power of two, so n's lowest bits in two's complement
	// are what remains of it, of a negative n too.
	left := uint32(n) & (turnBits - 1)
	return v<<left | v>>(turnBits-left)
}

// Bytes answers the lowest n bytes of v, the highest first, at most 64.
func Bytes(v uint64, n int) []byte {
	if n < 1 {
		return nil
	}
	out := make([]byte, min(n, mostBytes))
	for i := len(out) - 1; i >= 0; i-- {
		out[i] = byte(v)
		v >>= byteBits
	}
	return out
}

// Number answers the number of all of b, the highest byte first, and false where 64 bits don't hold it.
func Number(b []byte) (uint64, bool) {
	var v uint64
	for _, x := range b {
		// The next shift would lose these bits; noughts ahead never set them.
		if v>>(wordBits-byteBits) != 0 {
			return 0, false
		}
		v = v<<byteBits | uint64(x)
	}
	return v, true
}

// Signed answers the number that one to eight bytes are in two's complement, and false of others.
func Signed(b []byte) (int64, bool) {
	if len(b) < 1 || len(b) > wordBytes {
		return 0, false
	}
	v, _ := Number(b) // eight bytes always fit
	return Wrap(int64(v), len(b)*byteBits), true
}
