package epoch

import (
	"slices"
	"testing"

	"epoch/api"
)

// These look inside: Dump can tell what is kept, but not that nothing else is.

var forgetRoot = api.Secret{1, 2, 3, 4, 0xfc, 0xfd, 0xfe, 0xff}

// inMemory are all secrets that lie in a Group, told by Dump or not.
func inMemory(g *Group) []api.Secret {
	var secrets []api.Secret
	for _, p := range g.tree.parts {
		secrets = append(secrets, p.secret)
	}
	for _, r := range g.ratchets {
		secrets = append(secrets, r.secret)
	}
	for _, p := range g.passed.places() {
		secrets = append(secrets, *g.passed[p])
	}
	return slices.DeleteFunc(secrets, func(s api.Secret) bool { return s == api.Secret{} })
}

func mustLieOpen(t *testing.T, g *Group, when string) {
	t.Helper()
	var told []api.Secret
	for _, x := range g.Dump() {
		told = append(told, x.Secret)
	}
	if lie := inMemory(g); !slices.Equal(lie, told) {
		t.Errorf("P13: %s there lie %x, and Dump tells %x", when, lie, told)
	}
}

func TestNothingLiesInAGroupThatDumpDoesNotTell(t *testing.T) {
	for members := 1; members <= api.MaxMembers; members++ {
		for own := range members {
			g, _ := New(forgetRoot, members, own)
			mustLieOpen(t, g, "at first")
			for range 3 {
				g.Protect(nil)
				mustLieOpen(t, g, "behind a frame")
			}
		}
	}
}

// frameAt is sealed by the plain calls, so that no Group is needed for it.
func frameAt(members int, p place) []byte {
	key, _ := Key(forgetRoot, members, p.member, p.generation)
	return frameOf(p, key, nil, Derive)
}

func TestNothingLiesInAGroupThatReadsThatDumpDoesNotTell(t *testing.T) {
	for members := 2; members <= api.MaxMembers; members++ {
		g, _ := New(forgetRoot, members, members-1)
		for i := range 8 * members {
			p := place{member: i * i % members, generation: i / members * 3}
			frame := frameAt(members, p)
			g.Unprotect(append(frame[:len(frame)-1:len(frame)-1], ^frame[len(frame)-1]))
			mustLieOpen(t, g, "behind a frame that does not open")
			g.Unprotect(frame)
			mustLieOpen(t, g, "behind a frame that opens")
			g.Unprotect(frameAt(members, place{p.member, p.generation - p.generation%2}))
			mustLieOpen(t, g, "behind a frame of a key that was passed over")
		}
	}
}

// The test holds on to the memory of the keys that the Group lets go.
func TestKeysAreOverwrittenWhenTheyAreForgotten(t *testing.T) {
	g, _ := New(forgetRoot, 3, 0)
	g.Unprotect(frameAt(3, place{1, 4}))
	used, givenUp, stays := g.passed[place{1, 2}], g.passed[place{1, 0}], g.passed[place{1, 3}]
	g.Unprotect(frameAt(3, place{1, 2}))
	if *used != (api.Secret{}) || *givenUp == (api.Secret{}) {
		t.Errorf("P10: a key that was used lies there as %x, one that was not as %x", *used, *givenUp)
	}
	g.Unprotect(frameAt(3, place{1, 7}))
	if *givenUp != (api.Secret{}) || *stays == (api.Secret{}) {
		t.Errorf("P11: a key that was given up lies there as %x, one that was not as %x", *givenUp, *stays)
	}
}

func TestNothingOfATrialIsLeft(t *testing.T) {
	tried := trial{tree: wholeTree(forgetRoot, 5)}
	tried.upTo(place{4, 3}, Derive)
	if len(tried.passed()) != 3 || !tried.ratchet.begun {
		t.Errorf("P10: up to 3 a trial passes over %x", tried.passed())
	}
	tried.forget()
	if tried != (trial{}) {
		t.Errorf("P13: of a trial that is forgotten there lies %v", tried)
	}
}

func TestNothingLiesInAGroupBehindTheLastGeneration(t *testing.T) {
	g, _ := New(forgetRoot, 1, 0)
	for range api.Last + 1 {
		g.Protect(nil)
	}
	if lie := inMemory(g); len(lie) != 0 {
		t.Errorf("P13: behind the last generation there lie %x", lie)
	}
}

// The leaves of all members are taken, from each of them on and by each stride
// that comes to all of them.
func TestTheTreeIsTakenApartByEveryMember(t *testing.T) {
	for members := 1; members <= api.MaxMembers; members++ {
		for start := range members {
			for stride := 1; stride <= members; stride++ {
				if !shareADivisor(stride, members) {
					takeAllLeaves(t, members, start, stride)
				}
			}
		}
	}
}

func shareADivisor(a, b int) bool {
	for a != 0 {
		a, b = b%a, a
	}
	return b > 1
}

func takeAllLeaves(t *testing.T, members, start, stride int) {
	t.Helper()
	tree := wholeTree(forgetRoot, members)
	for i := range members {
		member := (start + i*stride) % members
		want, _ := Leaf(forgetRoot, members, member)
		if got := tree.takeLeaf(member, Derive); got != want || tree.find(member) >= 0 {
			t.Errorf("P13: the leaf of %d of %d is taken as %x, not %x, and leaves %v", member, members, got, want, tree.kept())
		}
		mustBeInOrder(t, &tree)
	}
	if len(tree.kept()) != 0 {
		t.Errorf("P13: when all leaves of %d are taken, %v is left", members, tree.kept())
	}
}

func mustBeInOrder(t *testing.T, tree *tree) {
	t.Helper()
	parts := tree.kept()
	for i := range parts {
		if i > 0 && parts[i].from < parts[i-1].to {
			t.Errorf("P13: the parts are out of order: %v", parts)
		}
	}
	for _, p := range tree.parts[tree.count:] {
		if p != (part{}) {
			t.Errorf("P13: behind the parts there lies %v", p)
		}
	}
}

// readSome hands in a frame of each of the first members, so that keys of theirs
// are kept.
func readSome(g *Group, members, own, count int) {
	for member := range count {
		if member != own {
			g.Unprotect(frameAt(members, place{member, 1 + member%5}))
		}
	}
}

func TestNothingLiesInAGroupThatIsClosed(t *testing.T) {
	for members := 1; members <= api.MaxMembers; members++ {
		for count := range members + 1 {
			own := members - 1
			g, _ := New(forgetRoot, members, own)
			readSome(g, members, own, count)
			if count%2 == 0 {
				g.Protect(nil)
			}
			if len(inMemory(g)) == 0 {
				t.Errorf("P13: ahead of Close nothing lies in a Group")
			}
			for range 2 {
				g.Close()
				if lie := inMemory(g); len(lie) != 0 || g.tree != (tree{}) || g.ratchets != [api.MaxMembers]ratchet{} || len(g.passed) != 0 {
					t.Errorf("P15: of %d members, behind Close there lie %x, %v, %v, %v", members, lie, g.tree, g.ratchets, g.passed)
				}
				g.Protect(nil)
				readSome(g, members, own, members)
			}
		}
	}
}

// The test holds on to the memory of the keys that the Group lets go.
func TestKeysAreOverwrittenWhenTheEpochEnds(t *testing.T) {
	for members := 2; members <= api.MaxMembers; members++ {
		g, _ := New(forgetRoot, members, 0)
		readSome(g, members, 0, members)
		var keys []*api.Secret
		for _, p := range g.passed.places() {
			keys = append(keys, g.passed[p])
		}
		if len(keys) == 0 || slices.ContainsFunc(keys, func(key *api.Secret) bool { return *key == api.Secret{} }) {
			t.Errorf("P10: of %d members there are kept %d keys", members, len(keys))
		}
		g.Close()
		for _, key := range keys {
			if *key != (api.Secret{}) {
				t.Errorf("P15: of %d members, behind Close a key lies there as %x", members, *key)
			}
		}
	}
}
