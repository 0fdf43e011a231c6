package epoch

import (
	"math/bits"

	"epoch/api"
)

// part is a part of the tree: the members from from to to - 1, and its secret.
type part struct {
	from, to int
	secret   api.Secret
}

// Leaf is the secret of a member (P5).
func Leaf(root api.Secret, members int, member int) (api.Secret, api.Errno) {
	if !hasMember(members, member) {
		return api.Secret{}, api.ErrGroup
	}
	return leafOf(wholeTree(root, members), member), api.OK
}

func hasMember(members int, member int) bool {
	return 1 <= members && members <= api.MaxMembers && 0 <= member && member < members
}

func wholeTree(root api.Secret, members int) part {
	return part{from: 0, to: members, secret: root}
}

func leafOf(p part, member int) api.Secret {
	for p.size() > 1 {
		left, right := p.halves()
		if left.has(member) {
			p = left
		} else {
			p = right
		}
	}
	return p.secret
}

func (p part) size() int { return p.to - p.from }

func (p part) has(member int) bool { return p.from <= member && member < p.to }

// halves is asked only of a part of more than one.
func (p part) halves() (left part, right part) {
	middle := p.from + powerBelow(p.size())
	left = part{from: p.from, to: middle, secret: Derive(p.secret, "left", 0)}
	right = part{from: middle, to: p.to, secret: Derive(p.secret, "right", 0)}
	return left, right
}

// powerBelow is the greatest power of 2 below n, which is 2 or more: below, so
// a part that is itself a power of 2 falls into two that are alike.
func powerBelow(n int) int {
	return 1 << (bits.Len(uint(n-1)) - 1)
}
