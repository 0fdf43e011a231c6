package epoch

import "epoch/api"

// Close ends the epoch (P15).
func (g *Group) Close() api.Errno {
	g.mutex.Lock()
	defer g.mutex.Unlock()
	err := epochIsOver()
	g.ending.Do(func() {
		g.end()
		err = nil
	})
	return numberOf(err)
}

// end overwrites what is kept, since letting go of it would leave it in memory.
func (g *Group) end() {
	g.over = true
	g.tree = tree{}
	clear(g.ratchets[:])
	g.passed.forgetAll()
}
