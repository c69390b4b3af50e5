// Package digest: SHA-256 (FIPS 180-4), written out.
package digest

import "math/bits"

const (
	blockSize  = 64
	lengthSize = 8
	hexDigits  = "0123456789abcdef"
	shortBytes = 8
)

var roundConstants = [64]uint32{
	0x428a2f98, 0x71374491, 0xb5c0fbcf, 0xe9b5dba5, 0x3956c25b, 0x59f111f1, 0x923f82a4, 0xab1c5ed5,
	0xd807aa98, 0x12835b01, 0x243185be, 0x550c7dc3, 0x72be5d74, 0x80deb1fe, 0x9bdc06a7, 0xc19bf174,
	0xe49b69c1, 0xefbe4786, 0x0fc19dc6, 0x240ca1cc, 0x2de92c6f, 0x4a7484aa, 0x5cb0a9dc, 0x76f988da,
	0x983e5152, 0xa831c66d, 0xb00327c8, 0xbf597fc7, 0xc6e00bf3, 0xd5a79147, 0x06ca6351, 0x14292967,
	0x27b70a85, 0x2e1b2138, 0x4d2c6dfc, 0x53380d13, 0x650a7354, 0x766a0abb, 0x81c2c92e, 0x92722c85,
	0xa2bfe8a1, 0xa81a664b, 0xc24b8b70, 0xc76c51a3, 0xd192e819, 0xd6990624, 0xf40e3585, 0x106aa070,
	0x19a4c116, 0x1e376c08, 0x2748774c, 0x34b0bcb5, 0x391c0cb3, 0x4ed8aa4a, 0x5b9cca4f, 0x682e6ff3,
	0x748f82ee, 0x78a5636f, 0x84c87814, 0x8cc70208, 0x90befffa, 0xa4506ceb, 0xbef9a3f7, 0xc67178f2,
}

type state [8]uint32

// Sum gives the SHA-256 of a text.
func Sum(text string) [32]byte {
	s := state{
		0x6a09e667, 0xbb67ae85, 0x3c6ef372, 0xa54ff53a,
		0x510e527f, 0x9b05688c, 0x1f83d9ab, 0x5be0cd19,
	}
	padded := pad(text)
	for len(padded) > 0 {
		s = s.mix(schedule(padded[:blockSize]))
		padded = padded[blockSize:]
	}
	return s.bytes()
}

// Short gives the first 16 signs of a text's SHA-256.
func Short(text string) string {
	sum := Sum(text)
	signs := make([]byte, 0, 2*shortBytes)
	for _, b := range sum[:shortBytes] {
		signs = append(signs, hexDigits[b>>4], hexDigits[b&15])
	}
	return string(signs)
}

func pad(text string) []byte {
	padded := append([]byte(text), 0x80)
	for len(padded)%blockSize != blockSize-lengthSize {
		padded = append(padded, 0)
	}
	length := uint64(len(text)) * 8
	for shift := 56; shift >= 0; shift -= 8 {
		padded = append(padded, byte(length>>shift))
	}
	return padded
}

func schedule(block []byte) [64]uint32 {
	var w [64]uint32
	for i := range 16 {
		b := block[4*i:]
		w[i] = uint32(b[0])<<24 | uint32(b[1])<<16 | uint32(b[2])<<8 | uint32(b[3])
	}
	for i := 16; i < len(w); i++ {
		w[i] = smallSigma1(w[i-2]) + w[i-7] + smallSigma0(w[i-15]) + w[i-16]
	}
	return w
}

func (s state) mix(w [64]uint32) state {
	a, b, c, d, e, f, g, h := s[0], s[1], s[2], s[3], s[4], s[5], s[6], s[7]
	for i := range w {
		t1 := h + bigSigma1(e) + (e&f ^ ^e&g) + roundConstants[i] + w[i]
		t2 := bigSigma0(a) + (a&b ^ a&c ^ b&c)
		a, b, c, d, e, f, g, h = t1+t2, a, b, c, d+t1, e, f, g
	}
	return state{s[0] + a, s[1] + b, s[2] + c, s[3] + d, s[4] + e, s[5] + f, s[6] + g, s[7] + h}
}

func (s state) bytes() [32]byte {
	var sum [32]byte
	for i := range sum {
		sum[i] = byte(s[i/4] >> (24 - i%4*8))
	}
	return sum
}

func bigSigma0(x uint32) uint32 { return turn(x, 2) ^ turn(x, 13) ^ turn(x, 22) }

func bigSigma1(x uint32) uint32 { return turn(x, 6) ^ turn(x, 11) ^ turn(x, 25) }

func smallSigma0(x uint32) uint32 { return turn(x, 7) ^ turn(x, 18) ^ x>>3 }

func smallSigma1(x uint32) uint32 { return turn(x, 17) ^ turn(x, 19) ^ x>>10 }

func turn(x uint32, right int) uint32 { return bits.RotateLeft32(x, -right) }
