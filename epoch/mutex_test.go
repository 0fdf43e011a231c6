package epoch

import (
	"sync"
	"sync/atomic"
	"testing"
	"time"

	"epoch/api"
)

// These look inside: whether two calls come at the same time cannot be forced
// from outside, but the mutex that keeps them apart can be held and asked for.

var callsByName = []struct {
	name string
	call func(g *Group)
}{
	{"Protect", func(g *Group) { g.Protect(nil) }},
	{"Protect of a text too long", func(g *Group) { g.Protect(make([]byte, api.MaxText+1)) }},
	{"Unprotect", func(g *Group) { g.Unprotect(frameAt(3, place{1, 2})) }},
	{"Unprotect of a kept key", func(g *Group) { g.Unprotect(frameAt(3, place{1, 0})) }},
	{"Unprotect of no frame", func(g *Group) { g.Unprotect(nil) }},
	{"Unprotect of one's own", func(g *Group) { g.Unprotect(frameAt(3, place{0, 0})) }},
	{"Unprotect of a used key", func(g *Group) { g.Unprotect(frameAt(3, place{1, 2})) }},
	{"Unprotect of one far ahead", func(g *Group) { g.Unprotect(frameAt(3, place{2, 6})) }},
	{"Unprotect of one that does not open", func(g *Group) { g.Unprotect([]byte{2, 0, 1, 0, 0, 0, 0}) }},
	{"Dump", func(g *Group) { g.Dump() }},
	{"Work", func(g *Group) { g.Work() }},
	{"Close", func(g *Group) { g.Close() }},
	{"Protect behind Close", func(g *Group) { g.Protect(nil) }},
	{"Unprotect behind Close", func(g *Group) { g.Unprotect(frameAt(3, place{1, 1})) }},
	{"Dump behind Close", func(g *Group) { g.Dump() }},
	{"Work behind Close", func(g *Group) { g.Work() }},
	{"Close once more", func(g *Group) { g.Close() }},
}

func TestEveryCallWaitsForTheOneBefore(t *testing.T) {
	g, _ := New(forgetRoot, 3, 0)
	for _, c := range callsByName {
		var calling sync.WaitGroup
		var answered atomic.Bool
		g.mutex.Lock()
		before := inMemory(g)
		calling.Go(func() {
			c.call(g)
			answered.Store(true)
		})
		time.Sleep(5 * time.Millisecond)
		if answered.Load() || len(inMemory(g)) != len(before) {
			t.Errorf("P2: %s does not wait for another call", c.name)
		}
		g.mutex.Unlock()
		calling.Wait()
	}
}

func TestEveryCallLetsTheNextOneIn(t *testing.T) {
	g, _ := New(forgetRoot, 3, 0)
	for _, c := range callsByName {
		c.call(g)
		if !g.mutex.TryLock() {
			t.Fatalf("P1: behind %s no call would end", c.name)
		}
		g.mutex.Unlock()
	}
}
