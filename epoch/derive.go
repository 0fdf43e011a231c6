// Package epoch: messages within a group, for one epoch: see DOC.md.
package epoch

import "epoch/api"

const (
	deriveStart  uint64 = 14695981039346656037
	deriveFactor uint64 = 1099511628211
	deriveRounds        = 3
)

// deriver is Derive, or what counts on the way to it: whatever derives is handed
// one, so that a Group's work is counted and that of the plain calls is not.
type deriver func(s api.Secret, label string, number int) api.Secret

// Derive is what comes of a secret (P3).
func Derive(s api.Secret, label string, number int) api.Secret {
	state := deriveStart
	for _, b := range s {
		state = takeIn(state, b)
	}
	// By index: ranging over the label would give runes, not bytes.
	for i := 0; i < len(label); i++ {
		state = takeIn(state, label[i])
	}
	// The conversion wraps, which is what makes the number one modulo 2^32.
	for _, b := range fourBytes(uint32(number)) {
		state = takeIn(state, b)
	}
	for range deriveRounds {
		state = (state ^ state>>32) * deriveFactor
	}
	return eightBytes(state)
}

func takeIn(state uint64, b byte) uint64 {
	return (state ^ uint64(b)) * deriveFactor
}

func fourBytes(n uint32) [4]byte {
	return [4]byte{byte(n >> 24), byte(n >> 16), byte(n >> 8), byte(n)}
}

func eightBytes(n uint64) api.Secret {
	var s api.Secret
	for i := range s {
		s[i] = byte(n >> (56 - 8*i))
	}
	return s
}
