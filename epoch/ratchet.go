package epoch

import "epoch/api"

// ratchet is the ratchet of a member, at a generation.
type ratchet struct {
	generation int
	secret     api.Secret
}

// Key is the key of a member's generation (P6).
func Key(root api.Secret, members int, member int, generation int) (api.Secret, api.Errno) {
	leaf, err := Leaf(root, members, member)
	if err != api.OK {
		return api.Secret{}, err
	}
	if !isGeneration(generation) {
		return api.Secret{}, api.ErrSpent
	}
	r := ratchetOf(leaf)
	r.goTo(generation, r.turn)
	return r.key(), api.OK
}

func isGeneration(generation int) bool {
	return 0 <= generation && generation <= api.Last
}

func ratchetOf(leaf api.Secret) ratchet {
	return ratchet{generation: 0, secret: Derive(leaf, "ratchet", 0)}
}

// goTo does one step for each generation from where the ratchet stands up to
// the given one, without it. The step is handed on, since what is done on the
// way is the caller's to choose; the steps are counted beforehand, so that none
// of them can keep it from ending.
func (r *ratchet) goTo(generation int, step func()) {
	for range generation - r.generation {
		step()
	}
}

func (r *ratchet) turn() {
	r.secret = Derive(r.secret, "next", r.generation)
	r.generation++
}

func (r *ratchet) key() api.Secret {
	return Derive(r.secret, "key", r.generation)
}
