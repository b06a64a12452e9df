// Package crc computes CRC-32 checksums, bit by bit as chapter 1 words them.
package crc

const (
	// taps is what a register is combined with when the bit that leaves it and the bit fed differ.
	taps = 0xEDB88320
	// ones is the register at which a sum begins.
	ones = 0xFFFFFFFF
)

// register changes in place, so that its method feedByte, handed on as a value, keeps feeding the one register.
type register uint32

// feedBit feeds the least significant bit of bit, whatever stands above it: a byte's bits come here by shifts alone.
func (r *register) feedBit(bit byte) {
	old := uint32(*r)
	x := (old ^ uint32(bit)) & 1
	*r = register(old>>1 ^ x*taps)
}

// feedByte feeds the eight bits of b, the least significant one first.
func (r *register) feedByte(b byte) {
	for i := range 8 {
		r.feedBit(b >> i)
	}
}

// each hands every byte of b to feed, in order.
func each(b []byte, feed func(byte)) {
	for _, c := range b {
		feed(c)
	}
}

// Byte returns the register r after the byte b has been fed into it.
func Byte(r uint32, b byte) uint32 {
	reg := register(r)
	reg.feedByte(b)
	return uint32(reg)
}

// Extend returns the register r after all bytes of b have been fed into it, in order.
func Extend(r uint32, b []byte) uint32 {
	reg := register(r)
	each(b, reg.feedByte)
	return uint32(reg)
}

// Sum returns the sum of b: the complement of what b makes of a register of ones.
func Sum(b []byte) uint32 {
	return ^Extend(ones, b)
}
