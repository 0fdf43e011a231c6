package epoch

import "epoch/api"

// Message is what a frame says.
type Message struct {
	Member, Generation int
	Text               []byte
}

// Unprotect opens a frame (P9 to P12).
func (g *Group) Unprotect(frame []byte) (Message, api.Errno) {
	g.mutex.Lock()
	defer g.mutex.Unlock()
	message, err := g.read(frame)
	return message, numberOf(err)
}

func (g *Group) read(frame []byte) (Message, error) {
	if g.over {
		return Message{}, epochIsOver()
	}
	p, err := placeIn(frame, g.members)
	if err != nil {
		return Message{}, err
	}
	text, err := g.openAt(p, frame)
	if err != nil {
		return Message{}, frameFault{p, err}
	}
	return Message{Member: p.member, Generation: p.generation, Text: text}, nil
}

func (g *Group) openAt(p place, frame []byte) ([]byte, error) {
	next := g.ratchets[p.member].generation
	switch {
	case p.member == g.own:
		return nil, fault{api.ErrOwn, "it is one's own"}
	case p.generation < next:
		return g.openBehind(p, frame)
	case p.generation-next > api.MaxSkip:
		return nil, fault{api.ErrFar, "too many generations lie between"}
	}
	return g.openAhead(p, frame)
}

// openBehind opens with a key that was passed over.
func (g *Group) openBehind(p place, frame []byte) ([]byte, error) {
	key, ok := g.passed[p]
	if !ok {
		return nil, fault{api.ErrConsumed, "no key of it is kept"}
	}
	text, err := openFrame(frame, *key, g.derive)
	if err == nil {
		g.passed.forget(p)
	}
	return text, err
}

// openAhead opens with the key of the next generation, or of one ahead of it.
func (g *Group) openAhead(p place, frame []byte) ([]byte, error) {
	t := trial{tree: g.tree, ratchet: g.ratchets[p.member]}
	// Opened or not, nothing of the trial stays beside what is kept.
	defer t.forget()
	t.upTo(p, g.derive)
	key := t.ratchet.key(g.derive)
	defer clear(key[:])
	text, err := openFrame(frame, key, g.derive)
	if err == nil {
		g.settle(&t, p)
	}
	return text, err
}

// settle makes the Group what was tried, behind the frame that opened.
func (g *Group) settle(t *trial, p place) {
	t.ratchet.turn(g.derive)
	g.tree, g.ratchets[p.member] = t.tree, t.ratchet
	first := p.generation - len(t.passed())
	for i, key := range t.passed() {
		g.passed.keep(place{p.member, first + i}, key)
	}
	g.passed.giveUp(p.member)
}
