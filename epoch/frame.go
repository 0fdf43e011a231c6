package epoch

import (
	"cmp"
	"slices"

	"epoch/api"
)

const (
	headSize  = 3
	leastSize = headSize + tagSize
	mostSize  = leastSize + api.MaxText
)

// place is a member's generation: what a head says, and what a key is one of.
type place struct {
	member, generation int
}

func (p place) head() [headSize]byte {
	return [headSize]byte{byte(p.member), byte(p.generation >> 8), byte(p.generation)}
}

func (p place) compare(q place) int {
	return cmp.Or(cmp.Compare(p.member, q.member), cmp.Compare(p.generation, q.generation))
}

// placeIn reads the head of a frame of a group that has so many members.
func placeIn(frame []byte, members int) (place, error) {
	if len(frame) < leastSize || len(frame) > mostSize {
		return place{}, fault{api.ErrFrame, "no frame has so many bytes"}
	}
	p := place{member: int(frame[0]), generation: int(frame[1])<<8 | int(frame[2])}
	if !hasMember(members, p.member) {
		return place{}, fault{api.ErrFrame, "the group has no such member"}
	}
	return p, nil
}

func frameOf(p place, key api.Secret, text []byte, derive deriver) []byte {
	head := p.head()
	return slices.Concat(head[:], seal(key, head[:], text, derive))
}

// openFrame is asked only of a frame whose head could be read.
func openFrame(frame []byte, key api.Secret, derive deriver) ([]byte, error) {
	text, ok := open(key, frame[:headSize], frame[headSize:], derive)
	if !ok {
		return nil, fault{api.ErrSeal, "it does not open with its key"}
	}
	return text, nil
}
