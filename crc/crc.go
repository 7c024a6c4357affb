// Package crc is layer 2: see shared/doc/02-crc.md.
package crc

import "math/bits"

// nibbles is what four steps of the register make of its lowest four bits: a table of whole bytes would be sixteen times as long.
var nibbles = [16]uint32{
	0x00000000, 0x105ec76f, 0x20bd8ede, 0x30e349b1,
	0x417b1dbc, 0x5125dad3, 0x61c69362, 0x7198540d,
	0x82f63b78, 0x92a8fc17, 0xa24bb5a6, 0xb21572c9,
	0xc38d26c4, 0xd3d3e1ab, 0xe330a81a, 0xf36e6f75,
}

// masking is added to a check, so that bytes that hold their own check have no check that is always the same.
const masking = 0xa282ead8

// Sum is the check of bytes.
func Sum(b []byte) uint32 {
	// No bytes leave the register's ones, turned: 0.
	return More(0, b)
}

// More is the check of bytes behind those of which the check is known.
func More(sum uint32, b []byte) uint32 {
	register := ^sum
	for _, c := range b {
		register ^= uint32(c)
		register = register>>4 ^ nibbles[register%16]
		register = register>>4 ^ nibbles[register%16]
	}
	return ^register
}

// Mask is a check that may stand beside what it is of.
func Mask(sum uint32) uint32 {
	return bits.RotateLeft32(sum, -15) + masking
}

// Unmask is the check that was masked.
func Unmask(m uint32) uint32 {
	return bits.RotateLeft32(m-masking, 15)
}
