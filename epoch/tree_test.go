package epoch_test

import (
	"math"
	"strings"
	"testing"

	"epoch/api"
	"epoch/epoch"
)

// waysDown has a line for each size of a group: each member's way from the root
// down to its leaf, L for left and R for right; a dot is no way at all.
var waysDown = []string{
	".",
	"L R",
	"LL LR R",
	"LL LR RL RR",
	"LLL LLR LRL LRR R",
	"LLL LLR LRL LRR RL RR",
	"LLL LLR LRL LRR RLL RLR RR",
	"LLL LLR LRL LRR RLL RLR RRL RRR",
	"LLLL LLLR LLRL LLRR LRLL LRLR LRRL LRRR R",
	"LLLL LLLR LLRL LLRR LRLL LRLR LRRL LRRR RL RR",
	"LLLL LLLR LLRL LLRR LRLL LRLR LRRL LRRR RLL RLR RR",
	"LLLL LLLR LLRL LLRR LRLL LRLR LRRL LRRR RLL RLR RRL RRR",
	"LLLL LLLR LLRL LLRR LRLL LRLR LRRL LRRR RLLL RLLR RLRL RLRR RR",
	"LLLL LLLR LLRL LLRR LRLL LRLR LRRL LRRR RLLL RLLR RLRL RLRR RRL RRR",
	"LLLL LLLR LLRL LLRR LRLL LRLR LRRL LRRR RLLL RLLR RLRL RLRR RRLL RRLR RRR",
	"LLLL LLLR LLRL LLRR LRLL LRLR LRRL LRRR RLLL RLLR RLRL RLRR RRLL RRLR RRRL RRRR",
}

func downFrom(root api.Secret, way string) api.Secret {
	for _, turn := range strings.Trim(way, ".") {
		if turn == 'L' {
			root = epoch.Derive(root, "left", 0)
		} else {
			root = epoch.Derive(root, "right", 0)
		}
	}
	return root
}

// eachMember goes through the members of the groups of every size.
func eachMember(do func(members, member int, way string)) {
	for i, line := range waysDown {
		for member, way := range strings.Fields(line) {
			do(i+1, member, way)
		}
	}
}

// notInAnyGroup are pairs of a size and a member: a wrong size, a wrong member,
// or both.
var notInAnyGroup = [][2]int{
	{0, 0}, {0, -1}, {-1, 0}, {-1, -1}, {-1, -2}, {-16, 0},
	{17, 0}, {17, 16}, {17, 17}, {17, -1}, {32, 5}, {1<<32 + 3, 1}, {1 << 40, 1},
	{1, 1}, {1, -1}, {3, 3}, {3, -1}, {3, 4}, {3, 1 << 32}, {3, 1<<32 + 1},
	{8, 8}, {15, 15}, {16, 16}, {16, 17}, {16, -1}, {16, -16},
	{math.MaxInt64, 0}, {math.MinInt64, 0}, {3, math.MaxInt64}, {3, math.MinInt64},
	{math.MaxInt64, math.MaxInt64}, {math.MinInt64, math.MinInt64}, {math.MinInt64, math.MaxInt64},
}

func TestLeafGivesTheDocumentsValues(t *testing.T) {
	// Worked out apart from the program; the first is the document's example.
	for _, c := range []struct {
		root            api.Secret
		members, member int
		want            string
	}{
		{zero, 3, 1, "12eca01634882467"},
		{zero, 1, 0, "0000000000000000"},
		{mixed, 1, 0, "01020304fcfdfeff"},
		{mixed, 2, 0, "5dfb9194d4d707f7"},
		{mixed, 2, 1, "a337bd6a700a64b9"},
		{mixed, 3, 2, "a337bd6a700a64b9"},
		{mixed, 6, 4, "7016dfe240a134eb"},
		{mixed, 7, 6, "67a1f67c5e40ce76"},
		{mixed, 11, 9, "5e7b9a3c523103e0"},
		{mixed, 13, 12, "67a1f67c5e40ce76"},
		{mixed, 15, 14, "9cdf40cccd7693de"},
		{mixed, 16, 0, "2d68859f00a81142"},
		{mixed, 16, 15, "ba02e976a6710293"},
	} {
		got, err := epoch.Leaf(c.root, c.members, c.member)
		if hexOf(got) != c.want || err != api.OK {
			t.Errorf("P5: Leaf(%x, %d, %d) = %x, %d, not %s", c.root, c.members, c.member, got, err, c.want)
		}
	}
}

func TestLeafOfEveryMemberOfEveryGroup(t *testing.T) {
	for _, root := range oddSecrets {
		eachMember(func(members, member int, way string) {
			got, err := epoch.Leaf(root, members, member)
			if want := downFrom(root, way); got != want || err != api.OK {
				t.Errorf("P5: Leaf(%x, %d, %d) = %x, %d, not %x", root, members, member, got, err, want)
			}
		})
	}
}

func TestTheLeafOfAGroupOfOneIsTheRoot(t *testing.T) {
	for _, root := range oddSecrets {
		if got, err := epoch.Leaf(root, 1, 0); got != root || err != api.OK {
			t.Errorf("P5: Leaf(%x, 1, 0) = %x, %d", root, got, err)
		}
	}
}

func TestNoTwoMembersOfAGroupHaveTheSameLeaf(t *testing.T) {
	for members := 1; members <= api.MaxMembers; members++ {
		seen := map[api.Secret]int{}
		for member := range members {
			leaf, _ := epoch.Leaf(mixed, members, member)
			if other, ok := seen[leaf]; ok {
				t.Errorf("P5: of %d members, %d and %d have the leaf %x", members, other, member, leaf)
			}
			seen[leaf] = member
		}
	}
}

func TestLeafOfNoSuchMember(t *testing.T) {
	for _, c := range notInAnyGroup {
		if got, err := epoch.Leaf(mixed, c[0], c[1]); got != zero || err != api.ErrGroup {
			t.Errorf("P1, P5: Leaf of %d of %d = %x, %d", c[1], c[0], got, err)
		}
	}
}

// The sizes and members around the edges, each with each: exactly those that
// P5 names are answered with a leaf.
func TestLeafAnswersForExactlyTheMembersThereAre(t *testing.T) {
	for members := -3; members <= 20; members++ {
		for member := -3; member <= 20; member++ {
			want := api.ErrGroup
			if members >= 1 && members <= 16 && member >= 0 && member <= members-1 {
				want = api.OK
			}
			if _, err := epoch.Leaf(mixed, members, member); err != want {
				t.Errorf("P5: Leaf of %d of %d: %d, not %d", member, members, err, want)
			}
		}
	}
}
