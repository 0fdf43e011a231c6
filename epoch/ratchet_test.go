package epoch_test

import (
	"math"
	"testing"

	"epoch/api"
	"epoch/epoch"
)

var noGenerations = []int{-1, -2, -65535, 65536, 65537, 1 << 31, 1 << 32, 1<<32 + 1, -1 << 32, 1 << 40, math.MaxInt64, math.MinInt64}

func TestKeyGivesTheDocumentsValues(t *testing.T) {
	// Worked out apart from the program; the first is the document's example.
	for _, c := range []struct {
		root                        api.Secret
		members, member, generation int
		want                        string
	}{
		{zero, 3, 2, 258, "f2ee32128b28cc9f"},
		{zero, 1, 0, 0, "966fbef5f2c3ddc6"},
		{mixed, 1, 0, 0, "8ce6180fe0367800"},
		{mixed, 1, 0, 1, "5d4ea1e4a38483b7"},
		{mixed, 1, 0, 65535, "50106f9a64500380"},
		{mixed, 3, 2, 2, "32c84e2948393d38"},
		{mixed, 6, 5, 255, "4efbb779da5c08b4"},
		{mixed, 6, 5, 256, "505502eb2ff52340"},
		{mixed, 11, 10, 257, "09bb74f43968692d"},
		{mixed, 13, 0, 1000, "0ff57a8e8eaaf881"},
		{mixed, 16, 0, 65534, "a3ef94276b4e9a8f"},
		{mixed, 16, 0, 65535, "f67fa0e3fd1779ea"},
		{mixed, 16, 15, 65535, "21201c72d51f997f"},
	} {
		got, err := epoch.Key(c.root, c.members, c.member, c.generation)
		if hexOf(got) != c.want || err != api.OK {
			t.Errorf("P6: Key(%x, %d, %d, %d) = %x, %d, not %s", c.root, c.members, c.member, c.generation, got, err, c.want)
		}
	}
}

func TestKeyOfEveryMemberOfEveryGroup(t *testing.T) {
	for _, root := range oddSecrets {
		eachMember(func(members, member int, way string) {
			secret := epoch.Derive(downFrom(root, way), "ratchet", 0)
			for generation := range 20 {
				got, err := epoch.Key(root, members, member, generation)
				if want := epoch.Derive(secret, "key", generation); got != want || err != api.OK {
					t.Errorf("P6: Key(%x, %d, %d, %d) = %x, %d, not %x", root, members, member, generation, got, err, want)
				}
				secret = epoch.Derive(secret, "next", generation)
			}
		})
	}
}

func TestNoTwoKeysOfAGroupAreTheSame(t *testing.T) {
	type place struct{ member, generation int }
	seen := map[api.Secret]place{}
	for member := range 5 {
		for generation := range 300 {
			key, _ := epoch.Key(mixed, 5, member, generation)
			if other, ok := seen[key]; ok {
				t.Errorf("P6: the keys of %v and of %v are both %x", other, place{member, generation}, key)
			}
			seen[key] = place{member, generation}
		}
	}
}

func TestKeyAtNoSuchGeneration(t *testing.T) {
	for _, generation := range noGenerations {
		for _, c := range [][2]int{{1, 0}, {3, 0}, {3, 2}, {16, 15}} {
			if got, err := epoch.Key(mixed, c[0], c[1], generation); got != zero || err != api.ErrSpent {
				t.Errorf("P1, P6: Key of %d of %d at %d = %x, %d", c[1], c[0], generation, got, err)
			}
		}
	}
}

func TestKeyOfNoSuchMember(t *testing.T) {
	for _, c := range notInAnyGroup {
		for _, generation := range []int{0, 1, 258, 65535} {
			if got, err := epoch.Key(mixed, c[0], c[1], generation); got != zero || err != api.ErrGroup {
				t.Errorf("P1, P6: Key of %d of %d at %d = %x, %d", c[1], c[0], generation, got, err)
			}
		}
	}
}

// ErrGroup is named ahead of ErrSpent.
func TestKeyOfNoSuchMemberAtNoSuchGeneration(t *testing.T) {
	for _, c := range notInAnyGroup {
		for _, generation := range noGenerations {
			if got, err := epoch.Key(mixed, c[0], c[1], generation); got != zero || err != api.ErrGroup {
				t.Errorf("P1, P6: Key of %d of %d at %d = %x, %d", c[1], c[0], generation, got, err)
			}
		}
	}
}
