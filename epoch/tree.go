package epoch

import (
	"math/bits"
	"slices"

	"epoch/api"
)

// part is a part of the tree: the members from from to to - 1, and its secret.
type part struct {
	from, to int
	secret   api.Secret
}

// tree is what is kept of the tree: parts that have no member in common, in the
// order of their members, so that there are never more of them than members. It
// is an array, since a slice that grows leaves secrets behind in its old memory.
type tree struct {
	parts [api.MaxMembers]part
	count int
}

// Leaf is the secret of a member (P5).
func Leaf(root api.Secret, members int, member int) (api.Secret, api.Errno) {
	if !hasMember(members, member) {
		return api.Secret{}, api.ErrGroup
	}
	t := wholeTree(root, members)
	return t.takeLeaf(member, Derive), api.OK
}

func hasMember(members int, member int) bool {
	return 1 <= members && members <= api.MaxMembers && 0 <= member && member < members
}

func wholeTree(root api.Secret, members int) tree {
	t := tree{count: 1}
	t.parts[0] = part{from: 0, to: members, secret: root}
	return t
}

// kept shares the tree's memory: it is for reading on the spot.
func (t *tree) kept() []part { return t.parts[:t.count] }

// takeLeaf takes the tree apart down to the leaf of a member, and the leaf out
// of it. It is asked only of a member that a part still has.
func (t *tree) takeLeaf(member int, derive deriver) api.Secret {
	at := t.find(member)
	for t.parts[at].size() > 1 {
		t.halve(at, derive)
		if !t.parts[at].has(member) {
			at++
		}
	}
	leaf := t.parts[at].secret
	t.remove(at)
	return leaf
}

func (t *tree) find(member int) int {
	return slices.IndexFunc(t.kept(), func(p part) bool { return p.has(member) })
}

// halve lays the halves of a part over it and over the place behind it, from
// where the others have moved on: nothing of the part itself stays.
func (t *tree) halve(at int, derive deriver) {
	left, right := t.parts[at].halves(derive)
	copy(t.parts[at+1:], t.parts[at:t.count])
	t.parts[at], t.parts[at+1] = left, right
	t.count++
}

func (t *tree) remove(at int) {
	copy(t.parts[at:], t.parts[at+1:t.count])
	t.count--
	// Where the last one stood, its secret, or the removed one's, would stay.
	clear(t.parts[t.count:])
}

func (p part) size() int { return p.to - p.from }

func (p part) has(member int) bool { return p.from <= member && member < p.to }

// halves is asked only of a part of more than one.
func (p part) halves(derive deriver) (left part, right part) {
	middle := p.from + powerBelow(p.size())
	left = part{from: p.from, to: middle, secret: derive(p.secret, "left", 0)}
	right = part{from: middle, to: p.to, secret: derive(p.secret, "right", 0)}
	return left, right
}

// powerBelow is the greatest power of 2 below n, which is 2 or more: below, so
// a part that is itself a power of 2 falls into two that are alike.
func powerBelow(n int) int {
	return 1 << (bits.Len(uint(n-1)) - 1)
}
