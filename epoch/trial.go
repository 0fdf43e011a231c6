package epoch

import "epoch/api"

// trial is what becomes of a Group's tree and of a member's ratchet if a frame
// opens. It stands beside the Group until that is known, since a frame that
// does not open changes nothing.
type trial struct {
	tree    tree
	ratchet ratchet
	keys    [api.MaxSkip]api.Secret
	count   int
}

// upTo goes on to a generation that is the next one, or no more than MaxSkip
// ahead of it.
func (t *trial) upTo(p place, derive deriver) {
	t.ratchet.begin(&t.tree, p.member, derive)
	t.ratchet.goTo(p.generation, t.passOver, derive)
}

func (t *trial) passOver(derive deriver) {
	t.keys[t.count] = t.ratchet.key(derive)
	t.count++
	t.ratchet.turn(derive)
}

func (t *trial) passed() []api.Secret { return t.keys[:t.count] }

func (t *trial) forget() { *t = trial{} }
