// Package sha is layer 1: SHA-256. See shared/doc/01-sha.md.
package sha

import (
	"math/bits"

	"annalist/api"
)

// blockSize is how many bytes are mixed in at once, lengthSize how many at the end tell the length.
const (
	blockSize  = 64
	lengthSize = 8
)

// Digest is a digest on its way. Of the bytes written it keeps only those that do not fill a block yet.
type Digest struct {
	k     [64]uint32
	h     [8]uint32
	block [blockSize]byte
	size  uint64 // bytes written so far
}

// Sum answers the digest of b.
func Sum(t Table, b string) api.Hash {
	d := New(t)
	d.Write(b)
	return d.Sum()
}

// New answers a digest to which nothing has been written.
func New(t Table) *Digest {
	return &Digest{k: t.K, h: t.H}
}

// Write puts b behind what was written before.
func (d *Digest) Write(b string) {
	for len(b) > 0 {
		n := copy(d.block[d.filled():], b)
		d.size += uint64(n)
		b = b[n:]
		if d.filled() == 0 {
			d.mix()
		}
	}
}

// Sum answers the digest of what was written so far.
func (d *Digest) Sum() api.Hash {
	last := *d // a copy is padded: more may be written to d itself
	last.pad()
	b := make([]byte, 0, api.HashSize)
	for _, x := range last.h {
		b = append(b, byte(x>>24), byte(x>>16), byte(x>>8), byte(x))
	}
	return string(b)
}

// filled tells how many bytes wait in the block.
func (d *Digest) filled() int {
	return int(d.size % blockSize)
}

// pad closes the last block: one byte 80, noughts, and how many bits were written.
func (d *Digest) pad() {
	length := d.size * 8
	d.Write("\x80")
	for d.filled() != blockSize-lengthSize {
		d.Write("\x00")
	}
	end := make([]byte, 0, lengthSize)
	for i := range lengthSize {
		end = append(end, byte(length>>(8*(lengthSize-1-i))))
	}
	d.Write(string(end))
}

// mix takes the full block into h.
func (d *Digest) mix() {
	w := words(&d.block)
	after := rounds(d.h, &d.k, &w)
	for i := range after {
		d.h[i] += after[i]
	}
}

// words answers the block's 16 words, and the 48 that follow from them.
func words(block *[blockSize]byte) [64]uint32 {
	var w [64]uint32
	for t := range 16 {
		b := block[4*t:]
		w[t] = uint32(b[0])<<24 | uint32(b[1])<<16 | uint32(b[2])<<8 | uint32(b[3])
	}
	for t := 16; t < len(w); t++ {
		w[t] = smallSigma1(w[t-2]) + w[t-7] + smallSigma0(w[t-15]) + w[t-16]
	}
	return w
}

// rounds answers what a to h, begun with start, become by all rounds.
func rounds(start [8]uint32, k, w *[64]uint32) [8]uint32 {
	a, b, c, d, e, f, g, h := start[0], start[1], start[2], start[3], start[4], start[5], start[6], start[7]
	for t := range w {
		t1 := h + bigSigma1(e) + choose(e, f, g) + k[t] + w[t]
		t2 := bigSigma0(a) + majority(a, b, c)
		h, g, f, e, d, c, b, a = g, f, e, d+t1, c, b, a, t1+t2
	}
	return [8]uint32{a, b, c, d, e, f, g, h}
}

func choose(x, y, z uint32) uint32 {
	return x&y ^ ^x&z
}

func majority(x, y, z uint32) uint32 {
	return x&y ^ x&z ^ y&z
}

func bigSigma0(x uint32) uint32 {
	return turnRight(x, 2) ^ turnRight(x, 13) ^ turnRight(x, 22)
}

func bigSigma1(x uint32) uint32 {
	return turnRight(x, 6) ^ turnRight(x, 11) ^ turnRight(x, 25)
}

func smallSigma0(x uint32) uint32 {
	return turnRight(x, 7) ^ turnRight(x, 18) ^ x>>3
}

func smallSigma1(x uint32) uint32 {
	return turnRight(x, 17) ^ turnRight(x, 19) ^ x>>10
}

func turnRight(x uint32, by int) uint32 {
	return bits.RotateLeft32(x, -by)
}
