// Package handle is layer 1: names of nodes: see shared/doc/01-handle.md.
package handle

import "ropeline/api"

// How a word is split: an index, a generation above it, and two bits that a handle leaves 0.
const (
	indexBits = 12
	genBits   = 18
	indexMask = 1<<indexBits - 1
	genMask   = 1<<genBits - 1
)

// New is the handle of an index and a generation.
func New(index, gen int) (uint32, api.Errno) {
	if index < 0 || index > indexMask || gen < 0 || gen > genMask {
		return 0, api.ErrArg
	}
	return pack(uint32(index), uint32(gen)), api.OK
}

// Index is a handle's.
func Index(h uint32) int { return int(h & indexMask) }

// Gen is a handle's generation.
func Gen(h uint32) int { return int(h >> indexBits & genMask) }

// Right tells whether a word is a handle.
func Right(h uint32) bool { return h>>(indexBits+genBits) == 0 }

// Next is the handle of the next generation.
//
// It is built anew from the index and the generation, so that the answer is a handle even of a word that is none.
func Next(h uint32) uint32 {
	return pack(h&indexMask, (h>>indexBits+1)&genMask)
}

// pack asks nothing: both fit their bits already.
func pack(index, gen uint32) uint32 { return gen<<indexBits | index }
