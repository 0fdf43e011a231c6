package epoch_test

import (
	"fmt"
	"reflect"
	"slices"
	"strings"
	"testing"

	"epoch/api"
	"epoch/epoch"
)

// inShort is N0-2:secret of a part of the tree, H1.3:secret of a ratchet,
// K1.2:secret of a key that was passed over.
func inShort(items []api.Item) string {
	var words []string
	for _, x := range items {
		switch x.Kind {
		case api.Node:
			words = append(words, fmt.Sprintf("N%d-%d:%x", x.From, x.To, x.Secret))
		case api.Head:
			words = append(words, fmt.Sprintf("H%d.%d:%x", x.From, x.Generation, x.Secret))
		case api.Kept:
			words = append(words, fmt.Sprintf("K%d.%d:%x", x.From, x.Generation, x.Secret))
		default:
			words = append(words, fmt.Sprintf("%v", x))
		}
	}
	return strings.Join(words, " ")
}

// beside are the parts that are left when the tree is taken apart down to a
// member: at each turn of its way the other half, by the ways of the members
// that are in it.
func beside(root api.Secret, members int, way string) []api.Item {
	var items []api.Item
	ways := strings.Fields(waysDown[members-1])
	for i, turn := range strings.Trim(way, ".") {
		other := way[:i] + map[rune]string{'L': "R", 'R': "L"}[turn]
		item := api.Item{Kind: api.Node, From: -1, Secret: downFrom(root, other)}
		for member, w := range ways {
			if strings.HasPrefix(w, other) {
				if item.From < 0 {
					item.From = member
				}
				item.To = member + 1
			}
		}
		items = append(items, item)
	}
	slices.SortFunc(items, func(a, b api.Item) int { return a.From - b.From })
	return items
}

// headAt is a member's ratchet at a generation, from the leaf on.
func headAt(leaf api.Secret, member, generation int) api.Item {
	secret := epoch.Derive(leaf, "ratchet", 0)
	for i := range generation {
		secret = epoch.Derive(secret, "next", i)
	}
	return api.Item{Kind: api.Head, From: member, To: member + 1, Generation: generation, Secret: secret}
}

func mustKeep(t *testing.T, g *epoch.Group, when string, want []api.Item) {
	t.Helper()
	got := g.Dump()
	if len(got) == 0 && len(want) == 0 {
		return
	}
	if !reflect.DeepEqual(got, want) {
		t.Errorf("P13: %s %v is kept, not %v", when, got, want)
	}
}

func TestDumpGivesTheDocumentsValues(t *testing.T) {
	// Worked out apart from the program; the first is the document's example.
	for _, c := range []struct {
		root                api.Secret
		members, own, times int
		want                string
	}{
		{zero, 3, 1, 1, "N0-1:0005716b054f20b2 N2-3:737eaa98f5fea31c H1.1:09b7015afa873b43"},
		{mixed, 1, 0, 0, "N0-1:01020304fcfdfeff"},
		{mixed, 1, 0, 1, "H0.1:fa1b394d65a5ff30"},
		{mixed, 6, 4, 0, "N0-6:01020304fcfdfeff"},
		{mixed, 6, 4, 2, "N0-4:5dfb9194d4d707f7 N5-6:67a1f67c5e40ce76 H4.2:677adc5f7f5148c0"},
		{mixed, 13, 12, 3, "N0-8:5dfb9194d4d707f7 N8-12:7016dfe240a134eb H12.3:e7d678d68072b0fb"},
		{mixed, 16, 5, 258, "N0-4:8b277cb5579f5a57 N4-5:7028a822dda9771d N6-8:6f5f3aa78e8e91e6 N8-16:a337bd6a700a64b9 H5.258:d6a14b140b11ec84"},
	} {
		g := newGroup(t, c.root, c.members, c.own)
		protectTimes(t, g, c.times)
		if got := inShort(g.Dump()); got != c.want {
			t.Errorf("P13: of member %d of %d, behind %d frames, %s is kept, not %s", c.own, c.members, c.times, got, c.want)
		}
	}
}

func TestDumpOfEveryMemberOfEveryGroup(t *testing.T) {
	for _, root := range oddSecrets {
		eachMember(func(members, own int, way string) {
			g := newGroup(t, root, members, own)
			mustKeep(t, g, "at first", []api.Item{{Kind: api.Node, From: 0, To: members, Secret: root}})
			for next := 1; next < 6; next++ {
				mustProtect(t, g, ascending(next))
				when := fmt.Sprintf("of member %d of %d, behind %d frames,", own, members, next)
				mustKeep(t, g, when, append(beside(root, members, way), headAt(downFrom(root, way), own, next)))
			}
		})
	}
}

func TestNothingOfTheRatchetIsKeptBehindTheLastGeneration(t *testing.T) {
	for _, c := range []struct{ members, own int }{{1, 0}, {2, 0}, {5, 4}, {16, 15}} {
		way := strings.Fields(waysDown[c.members-1])[c.own]
		parts := beside(mixed, c.members, way)
		g := newGroup(t, mixed, c.members, c.own)
		protectTimes(t, g, api.Last)
		mustKeep(t, g, "ahead of the last generation", append(beside(mixed, c.members, way), headAt(downFrom(mixed, way), c.own, api.Last)))
		protectTimes(t, g, 1)
		mustKeep(t, g, "behind the last generation", parts)
		mustNotProtect(t, g, nil, api.ErrSpent)
		mustKeep(t, g, "behind ErrSpent", parts)
	}
}

// What is kept must not tell a key that was used: none of it is a secret that
// the key comes out of.
func TestNothingThatIsKeptTellsAUsedKey(t *testing.T) {
	eachMember(func(members, own int, way string) {
		g := newGroup(t, mixed, members, own)
		gone := map[api.Secret]string{}
		for i := range len(way) + 1 {
			gone[downFrom(mixed, way[:i])] = "a part that has the member"
		}
		for generation := range 4 {
			gone[headAt(downFrom(mixed, way), own, generation).Secret] = "a ratchet's secret"
			key, _ := epoch.Key(mixed, members, own, generation)
			gone[key] = "a key"
			mustProtect(t, g, nil)
			for _, x := range g.Dump() {
				if what, ok := gone[x.Secret]; ok {
					t.Errorf("P13: of member %d of %d, behind frame %d, %s is kept: %v", own, members, generation, what, x)
				}
			}
		}
	})
}

func TestTheTreeIsTakenApartByAFrameThatOpensAndByNoOther(t *testing.T) {
	eachPair(func(members, own, member int) {
		g := newGroup(t, mixed, members, own)
		way := strings.Fields(waysDown[members-1])[member]
		frame := frameBy(mixed, members, member, 2, ascending(9))
		turned := slices.Clone(frame)
		turned[7] ^= 1
		for _, other := range [][]byte{turned, frame[:6], frame[:7], frameBy(mixed, members, member, 6, nil), frameBy(mixed, members, own, 0, nil)} {
			g.Unprotect(other)
			mustKeep(t, g, "behind a frame that did not open", []api.Item{{Kind: api.Node, From: 0, To: members, Secret: mixed}})
		}
		mustUnprotect(t, g, frame, member, 2, ascending(9))
		want := append(beside(mixed, members, way), headAt(downFrom(mixed, way), member, 3), keptAt(mixed, members, member, 0), keptAt(mixed, members, member, 1))
		mustKeep(t, g, fmt.Sprintf("of %d of %d, behind frame 2 of %d,", own, members, member), want)
		g.Unprotect(frame)
		mustKeep(t, g, "behind the frame once more", want)
	})
}

// It is all one in which order the ratchets are needed, and by which call.
func TestTheTreeIsTakenApartByBothCalls(t *testing.T) {
	eachPair(func(members, own, member int) {
		first, second := newGroup(t, mixed, members, own), newGroup(t, mixed, members, own)
		frame := frameBy(mixed, members, member, 0, nil)
		mustProtect(t, first, nil)
		mustUnprotect(t, first, frame, member, 0, nil)
		mustUnprotect(t, second, frame, member, 0, nil)
		mustProtect(t, second, nil)
		want := newModel(mixed, members, own)
		want.next[own], want.next[member] = 1, 1
		mustKeep(t, first, "behind Protect and Unprotect", want.dump())
		mustKeep(t, second, "behind Unprotect and Protect", want.dump())
	})
}

func TestTheTreeIsGoneWhenAllRatchetsWereNeeded(t *testing.T) {
	for members := 1; members <= 16; members++ {
		g, m := newGroup(t, mixed, members, members/2), newModel(mixed, members, members/2)
		for i := range members {
			member := i * 7 % members
			if members%7 == 0 {
				member = i
			}
			if member == members/2 {
				mustProtect(t, g, nil)
				m.protect(nil)
			} else {
				mustAgree(t, g, m, "a first frame", frameBy(mixed, members, member, i%6, nil))
			}
		}
		for _, x := range g.Dump() {
			if x.Kind == api.Node {
				t.Errorf("P13: of %d members, all of whose ratchets were needed, %v is kept", members, x)
			}
		}
	}
}

func TestKeysThatWerePassedOverAreToldInOrder(t *testing.T) {
	for range 20 {
		g, m := newGroup(t, mixed, 16, 8), newModel(mixed, 16, 8)
		for _, member := range []int{15, 3, 11, 0, 7, 12, 1, 9} {
			mustAgree(t, g, m, "frame 4", frameBy(mixed, 16, member, 4, nil))
			mustAgree(t, g, m, "frame 7", frameBy(mixed, 16, member, 7, nil))
			mustAgree(t, g, m, "frame 5", frameBy(mixed, 16, member, 5, nil))
		}
		items := g.Dump()
		inOrder := slices.IsSortedFunc(items, func(a, b api.Item) int {
			return slices.Compare([]int{int(a.Kind), a.From, a.Generation}, []int{int(b.Kind), b.From, b.Generation})
		})
		if !inOrder {
			t.Errorf("P13: Dump is not in order: %v", items)
		}
	}
}

// As above, of a key that Unprotect used; those that were passed over may be
// told by what is kept, as long as they are not used themselves.
func TestNothingThatIsKeptTellsAKeyThatUnprotectUsed(t *testing.T) {
	eachPair(func(members, own, member int) {
		g := newGroup(t, mixed, members, own)
		way := strings.Fields(waysDown[members-1])[member]
		gone := map[api.Secret]string{}
		for i := range len(way) + 1 {
			gone[downFrom(mixed, way[:i])] = "a part that has the member"
		}
		for _, generation := range []int{1, 4, 0, 3, 10, 8} {
			mustUnprotect(t, g, frameBy(mixed, members, member, generation, nil), member, generation, nil)
			for before := range generation + 1 {
				gone[headAt(downFrom(mixed, way), member, before).Secret] = "a ratchet's secret"
			}
			gone[keptAt(mixed, members, member, generation).Secret] = "a key"
			for _, x := range g.Dump() {
				if what, ok := gone[x.Secret]; ok {
					t.Errorf("P10, P13: behind frame %d of %d of %d, %s is kept: %v", generation, member, members, what, x)
				}
			}
		}
	})
}
