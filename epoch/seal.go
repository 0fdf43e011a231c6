package epoch

import "epoch/api"

const (
	sumStart  uint32 = 2166136261
	sumFactor uint32 = 16777619
	sumBits   uint32 = 1<<31 - 1
	tagSize          = 4
)

// tag is an array, so that two of them are compared as values.
type tag [tagSize]byte

// Seal seals a text (P4).
func Seal(key api.Secret, head []byte, text []byte) []byte {
	return seal(key, head, text, Derive)
}

// Open opens what was sealed (P4).
func Open(key api.Secret, head []byte, sealed []byte) ([]byte, bool) {
	return open(key, head, sealed, Derive)
}

func seal(key api.Secret, head []byte, text []byte, derive deriver) []byte {
	sealed := throughStream(key, text, derive)
	t := tagOf(key, head, sealed, derive)
	return append(sealed, t[:]...)
}

func open(key api.Secret, head []byte, sealed []byte, derive deriver) ([]byte, bool) {
	size := len(sealed) - tagSize
	if size < 0 {
		return nil, false
	}
	var t tag
	copy(t[:], sealed[size:])
	if t != tagOf(key, head, sealed[:size], derive) {
		return nil, false
	}
	return throughStream(key, sealed[:size], derive), true
}

// throughStream both seals and unseals: exclusive or undoes itself. What it
// gives is new memory, so that neither Seal nor Open writes into its arguments.
func throughStream(key api.Secret, in []byte, derive deriver) []byte {
	out := make([]byte, len(in))
	var block api.Secret
	for i, b := range in {
		at := i % len(block)
		if at == 0 {
			block = derive(key, "stream", i/len(block))
		}
		out[i] = b ^ block[at]
	}
	return out
}

func tagOf(key api.Secret, head []byte, sealedText []byte, derive deriver) tag {
	s := derive(key, "tag", int(sumOf(head, sealedText)&sumBits))
	var t tag
	copy(t[:], s[:])
	return t
}

func sumOf(head []byte, sealedText []byte) uint32 {
	sum := sumStart
	for _, b := range head {
		sum = addToSum(sum, b)
	}
	sum = addToSum(sum, 0)
	for _, b := range sealedText {
		sum = addToSum(sum, b)
	}
	return sum
}

func addToSum(sum uint32, b byte) uint32 {
	return (sum ^ uint32(b)) * sumFactor
}
