// Package crc32 computes CRC-32 checksums.
package crc32

const polynomial = 0xEDB88320

// tables holds, in row k, what a byte does to the register when k more bytes enter after it.
type tables [4][256]uint32

// On returns the checksum of bytes whose checksum is sum, followed by b.
func On(sum uint32, b []byte) uint32 {
	t := makeTables()
	register := ^sum
	for len(b) >= 4 {
		register = enterFour(&t, register, b)
		b = b[4:]
	}
	for _, v := range b {
		register = register>>8 ^ t[0][byte(register)^v]
	}
	return ^register
}

// Sum returns the checksum of b.
func Sum(b []byte) uint32 {
	return On(0, b)
}

// enterFour lets the first four bytes of b enter together: they meet the whole register, so nothing of it is left to shift.
func enterFour(t *tables, register uint32, b []byte) uint32 {
	register ^= uint32(b[0]) | uint32(b[1])<<8 | uint32(b[2])<<16 | uint32(b[3])<<24
	return t[3][byte(register)] ^ t[2][byte(register>>8)] ^ t[1][byte(register>>16)] ^ t[0][byte(register>>24)]
}

func makeTables() tables {
	var t tables
	for i := range t[0] {
		t[0][i] = enterBits(uint32(i))
	}
	for k := 1; k < len(t); k++ {
		for i, v := range t[k-1] {
			t[k][i] = v>>8 ^ t[0][byte(v)]
		}
	}
	return t
}

// enterBits shifts eight bits out of the register.
func enterBits(register uint32) uint32 {
	for range 8 {
		low := register & 1
		register >>= 1
		if low == 1 {
			register ^= polynomial
		}
	}
	return register
}
