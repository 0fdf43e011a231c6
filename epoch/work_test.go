package epoch_test

import (
	"fmt"
	"sync"
	"testing"

	"epoch/api"
	"epoch/epoch"
)

// blocks is how many eight bytes of a text are begun.
func blocks(text int) int { return (text + 7) / 8 }

// mustWork holds what one Protect derived to what P14 allows and to what cannot
// be left out: the halves, the ratchet, the key, the tag, the stream, the next.
func mustWork(t *testing.T, what string, derived, halvings, first, text, next int) {
	t.Helper()
	least := 2*halvings + first + 1 + 1 + blocks(text) + next
	most := 4 + 2*halvings + 2 + blocks(text)
	if derived < least || derived > most {
		t.Errorf("P14: %s derives %d secrets, not from %d to %d", what, derived, least, most)
	}
}

func TestWorkOfEveryMemberOfEveryGroup(t *testing.T) {
	eachMember(func(members, own int, way string) {
		for _, text := range []int{0, 1, 7, 8, 9, 32, 33, 40} {
			g := newGroup(t, mixed, members, own)
			mustProtect(t, g, ascending(text))
			halvings := len(way)
			if members == 1 {
				halvings = 0
			}
			what := fmt.Sprintf("the first Protect of member %d of %d, of %d bytes,", own, members, text)
			mustWork(t, what, g.Work(), halvings, 1, text, 1)
		}
	})
}

func TestWorkOfFurtherFrames(t *testing.T) {
	g := newGroup(t, mixed, 16, 7)
	mustProtect(t, g, nil)
	for i := range 100 {
		before := g.Work()
		mustProtect(t, g, ascending(i%41))
		mustWork(t, "a further Protect", g.Work()-before, 0, 0, i%41, 1)
	}
}

func TestWorkOfTheLastFrameAndBehind(t *testing.T) {
	g := newGroup(t, mixed, 2, 1)
	protectTimes(t, g, api.Last)
	before := g.Work()
	mustProtect(t, g, ascending(9))
	mustWork(t, "the last Protect", g.Work()-before, 0, 0, 9, 0)
	after := g.Work()
	mustNotProtect(t, g, nil, api.ErrSpent)
	mustNotProtect(t, g, make([]byte, 41), api.ErrText)
	if g.Work() != after {
		t.Errorf("P14: behind the last frame Work grows from %d to %d", after, g.Work())
	}
}

func TestWorkIsThisGroupsAlone(t *testing.T) {
	g, other := newGroup(t, mixed, 5, 2), newGroup(t, mixed, 5, 2)
	mustProtect(t, g, ascending(20))
	before := g.Work()
	protectTimes(t, other, 3)
	epoch.New(mixed, 5, 2)
	epoch.Key(mixed, 5, 2, 7)
	epoch.Open(mixed, nil, epoch.Seal(mixed, nil, ascending(20)))
	for range 3 {
		g.Dump()
		if got := g.Work(); got != before {
			t.Errorf("P14: Work = %d, before %d, without a call that derives", got, before)
		}
	}
}

func TestWorkIsAskedWhileAFrameIsMade(t *testing.T) {
	g := newGroup(t, mixed, 16, 0)
	var asking sync.WaitGroup
	asking.Go(func() {
		seen := 0
		for range 1000 {
			now := g.Work()
			if now < seen {
				t.Errorf("P14: Work = %d, then %d", seen, now)
			}
			seen = now
		}
	})
	protectTimes(t, g, 200)
	asking.Wait()
	once := newGroup(t, mixed, 16, 0)
	protectTimes(t, once, 200)
	if g.Work() != once.Work() {
		t.Errorf("P14: Work = %d where it was asked in between, else %d", g.Work(), once.Work())
	}
}

func TestWorkOfUnprotect(t *testing.T) {
	eachPair(func(members, own, member int) {
		for passed := range 6 {
			for _, text := range []int{0, 1, 8, 9, 40} {
				g, m := newGroup(t, mixed, members, own), newModel(mixed, members, own)
				frame := frameBy(mixed, members, member, passed, ascending(text))
				turned := append([]byte{}, frame...)
				turned[len(turned)-1] ^= 1
				// What does not open is work too, each time.
				mustAgree(t, g, m, "a first frame, turned,", turned)
				mustAgree(t, g, m, "a first frame, turned, once more,", turned)
				mustAgree(t, g, m, "a first frame", frame)
				mustAgree(t, g, m, "a further frame", frameBy(mixed, members, member, 2*passed+1, ascending(text)))
				mustAgree(t, g, m, "a frame of a kept key, or of none,", frameBy(mixed, members, member, 2*passed, ascending(text)))
			}
		}
	})
}

func TestWorkOfUnprotectAtTheMost(t *testing.T) {
	// Worked out by hand: four halvings, the ratchet, five passed over with a
	// key and a next one each, the key, the tag, five blocks, the next one.
	g := newGroup(t, mixed, 16, 0)
	frame := frameBy(mixed, 16, 15, 5, ascending(40))
	mustUnprotect(t, g, frame, 15, 5, ascending(40))
	if most, all := 4+2*4+2*6+5, 8+1+10+1+1+5+1; g.Work() > most || g.Work() < all-1 {
		t.Errorf("P14: the greatest Unprotect derives %d secrets, not %d, and no more than %d", g.Work(), all, most)
	}
}

func TestErrorsAreNoWork(t *testing.T) {
	g := newGroup(t, mixed, 4, 2)
	mustUnprotect(t, g, frameBy(mixed, 4, 1, 5, nil), 1, 5, nil)
	before := g.Work()
	for range 100 {
		mustNotUnprotect(t, g, "too few bytes", make([]byte, 6), api.ErrFrame)
		mustNotUnprotect(t, g, "no such member", []byte{4, 0, 0, 0, 0, 0, 0}, api.ErrFrame)
		mustNotUnprotect(t, g, "one's own", []byte{2, 0, 0, 0, 0, 0, 0}, api.ErrOwn)
		mustNotUnprotect(t, g, "one given up", []byte{1, 0, 0, 0, 0, 0, 0}, api.ErrConsumed)
		mustNotUnprotect(t, g, "one far ahead", []byte{1, 0, 12, 0, 0, 0, 0}, api.ErrFar)
		mustNotUnprotect(t, g, "one far ahead, of a member not heard yet", []byte{0, 0, 6, 0, 0, 0, 0}, api.ErrFar)
	}
	if g.Work() != before {
		t.Errorf("P14: errors are work: %d, before %d", g.Work(), before)
	}
}
