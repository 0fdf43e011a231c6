package epoch

import "epoch/api"

// ratchet is the ratchet of a member, at a generation; the zero value is one
// that was not needed yet. Behind the last generation it has no secret any more.
type ratchet struct {
	begun      bool
	generation int
	secret     api.Secret
}

// Key is the key of a member's generation (P6).
func Key(root api.Secret, members int, member int, generation int) (api.Secret, api.Errno) {
	leaf, err := Leaf(root, members, member)
	if err != api.OK {
		return api.Secret{}, err
	}
	if !isGeneration(generation) {
		return api.Secret{}, api.ErrSpent
	}
	r := ratchetOf(leaf, Derive)
	r.goTo(generation, r.turn, Derive)
	return r.key(Derive), api.OK
}

func isGeneration(generation int) bool {
	return 0 <= generation && generation <= api.Last
}

func ratchetOf(leaf api.Secret, derive deriver) ratchet {
	return ratchet{begun: true, generation: 0, secret: derive(leaf, "ratchet", 0)}
}

// begin takes the tree apart where the ratchet is needed for the first time.
func (r *ratchet) begin(t *tree, member int, derive deriver) {
	if r.begun {
		return
	}
	leaf := t.takeLeaf(member, derive)
	defer clear(leaf[:])
	*r = ratchetOf(leaf, derive)
}

// goTo does one step for each generation from where the ratchet stands up to
// the given one, without it. The step is handed on, since what is done on the
// way is the caller's to choose; the steps are counted beforehand, so that none
// of them can keep it from ending.
func (r *ratchet) goTo(generation int, step func(deriver), derive deriver) {
	for range generation - r.generation {
		step(derive)
	}
}

// turn lays the next secret over the ratchet's. Behind the last generation
// there is none, and nothing is derived in vain.
func (r *ratchet) turn(derive deriver) {
	if r.generation < api.Last {
		r.secret = derive(r.secret, "next", r.generation)
	} else {
		clear(r.secret[:])
	}
	r.generation++
}

func (r *ratchet) key(derive deriver) api.Secret {
	return derive(r.secret, "key", r.generation)
}

func (r *ratchet) isSpent() bool { return !isGeneration(r.generation) }

func (r *ratchet) hasSecret() bool { return r.begun && !r.isSpent() }
