// Package octet is layer 1: numbers and texts as bytes, and a sum.
package octet

import "sumpter/api"

// numMax is how many bytes the greatest number has.
const numMax = 10

// polynomial is what the sum's register is xored with.
const polynomial = 0xEDB88320

// Num is a number's bytes.
func Num(n uint64) []byte {
	b := make([]byte, 0, numMax)
	for n >= 128 {
		b = append(b, byte(n)|128)
		n >>= 7
	}
	return append(b, byte(n))
}

// ReadNum is the number that bytes begin with, and how many they are.
func ReadNum(b []byte) (uint64, int, api.Errno) {
	k := numLen(b)
	if k == 0 {
		if len(b) >= numMax {
			return 0, 0, api.ErrForm
		}
		return 0, 0, api.ErrShort
	}
	last := b[k-1]
	if k > 1 && last == 0 || k == numMax && last > 1 {
		return 0, 0, api.ErrForm
	}
	var n uint64
	for i, x := range b[:k] {
		n |= uint64(x&127) << (7 * uint(i))
	}
	return n, k, api.OK
}

// numLen is how many bytes there are up to the first one below 128, this included; 0, if the first ten have none.
func numLen(b []byte) int {
	for i, x := range b {
		if i == numMax {
			return 0
		}
		if x < 128 {
			return i + 1
		}
	}
	return 0
}

// Text is a text's bytes.
func Text(s string) []byte {
	return append(Num(uint64(len(s))), s...)
}

// ReadText is the text that bytes begin with, of so many bytes at the most.
func ReadText(b []byte, most int) (string, int, api.Errno) {
	n, k, e := ReadNum(b)
	if e != api.OK {
		return "", 0, e
	}
	if most < 0 || n > uint64(most) {
		return "", 0, api.ErrLong
	}
	if n > uint64(len(b)-k) {
		return "", 0, api.ErrShort
	}
	end := k + int(n)
	return string(b[k:end]), end, api.OK
}

// Fixed is a number in four bytes.
func Fixed(n uint32) [4]byte {
	return [4]byte{byte(n), byte(n >> 8), byte(n >> 16), byte(n >> 24)}
}

// ReadFixed is the number of four bytes.
func ReadFixed(b []byte) (uint32, api.Errno) {
	if len(b) < 4 {
		return 0, api.ErrShort
	}
	return uint32(b[0]) | uint32(b[1])<<8 | uint32(b[2])<<16 | uint32(b[3])<<24, api.OK
}

// sumSteps is what four shifts make of each half of a byte: so a byte takes two steps, not eight.
func sumSteps() [16]uint32 {
	var steps [16]uint32
	for i := range steps {
		r := uint32(i)
		for range 4 {
			fell := r & 1
			r >>= 1
			if fell == 1 {
				r ^= polynomial
			}
		}
		steps[i] = r
	}
	return steps
}

// Sum is the sum of some bytes.
func Sum(b []byte) uint32 {
	steps := sumSteps()
	r := ^uint32(0)
	for _, x := range b {
		r ^= uint32(x)
		r = r>>4 ^ steps[r&15]
		r = r>>4 ^ steps[r&15]
	}
	return ^r
}
