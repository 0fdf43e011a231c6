package epoch_test

import (
	"bytes"
	"slices"
	"sync"
	"sync/atomic"
	"testing"

	"epoch/api"
	"epoch/epoch"
)

// These call one Group from several goroutines: it must answer each call as if
// they had come one behind the other.

// atOnce runs something in several goroutines that begin together.
func atOnce(count int, do func(i int)) {
	var all sync.WaitGroup
	begin := make(chan struct{})
	for i := range count {
		all.Go(func() {
			<-begin
			do(i)
		})
	}
	close(begin)
	all.Wait()
}

// mustBeAlike holds a Group to one that was called by one goroutine alone.
func mustBeAlike(t *testing.T, g, alone *epoch.Group) {
	t.Helper()
	if got, want := g.Dump(), alone.Dump(); !slices.Equal(got, want) {
		t.Errorf("P13: behind calls at the same time %v is kept, behind one another %v", got, want)
	}
	if got, want := g.Work(), alone.Work(); got != want {
		t.Errorf("P14: calls at the same time are work: %d, behind one another %d", got, want)
	}
}

func TestProtectAtTheSameTime(t *testing.T) {
	for _, members := range []int{1, 2, 7, 16} {
		g, alone := newGroup(t, mixed, members, members-1), newGroup(t, mixed, members, members-1)
		made := make([][][]byte, 8)
		atOnce(8, func(i int) {
			for range 300 {
				frame, err := g.Protect(ascending(40))
				if err != api.OK {
					t.Errorf("P8: at the same time as others, Protect = %x, %d", frame, err)
				}
				made[i] = append(made[i], frame)
			}
		})
		for i := range made {
			if !slices.IsSortedFunc(made[i], bytes.Compare) {
				t.Errorf("P8: one goroutine's frames go back")
			}
		}
		frames := slices.Concat(made...)
		slices.SortFunc(frames, bytes.Compare)
		for generation, frame := range frames {
			if want := mustProtect(t, alone, ascending(40)); !bytes.Equal(frame, want) {
				t.Fatalf("P8: of frames made at the same time number %d is %x, not %x", generation, frame, want)
			}
		}
		mustBeAlike(t, g, alone)
	}
}

// All hand in the same frames, in order: whichever is ahead, a frame is the next
// one or was opened before.
func TestUnprotectOfTheSameFramesAtTheSameTime(t *testing.T) {
	frames := framesOf(5, 2, 600)
	g, alone := newGroup(t, mixed, 5, 4), newGroup(t, mixed, 5, 4)
	opened := make([]atomic.Int64, len(frames))
	atOnce(8, func(int) {
		for generation, frame := range frames {
			message, err := g.Unprotect(frame)
			switch {
			case err == api.OK && message.Generation == generation && bytes.Equal(message.Text, textOf(generation)):
				opened[generation].Add(1)
			case err != api.ErrConsumed || message.Text != nil:
				t.Errorf("P9: at the same time as others, frame %d is %v, %d", generation, message, err)
			}
		}
	})
	for generation, frame := range frames {
		if times := opened[generation].Load(); times != 1 {
			t.Errorf("P12: frame %d opens %d times", generation, times)
		}
		mustUnprotect(t, alone, frame, 2, generation, textOf(generation))
	}
	mustBeAlike(t, g, alone)
}

// Each goroutine hands in the frames of one member, by every third of them and
// then one that was passed over, and one protects.
func TestUnprotectOfManyMembersAtTheSameTime(t *testing.T) {
	g, alone := newGroup(t, mixed, 9, 8), newGroup(t, mixed, 9, 8)
	var frames [8][][]byte
	for member := range frames {
		frames[member] = framesOf(9, member, 300)
	}
	go9 := func(g *epoch.Group, member int) {
		for i := 2; i < 300; i += 3 {
			if member == 8 {
				if _, err := g.Protect(nil); err != api.OK {
					t.Errorf("P8: at the same time as others, Protect = %d", err)
				}
				continue
			}
			for _, generation := range []int{i, i - 1} {
				if message, err := g.Unprotect(frames[member][generation]); err != api.OK || message.Member != member || !bytes.Equal(message.Text, textOf(generation)) {
					t.Errorf("P9: at the same time as others, frame %d of %d is %v, %d", generation, member, message, err)
				}
			}
		}
	}
	atOnce(9, func(member int) { go9(g, member) })
	for member := range 9 {
		go9(alone, member)
	}
	mustBeAlike(t, g, alone)
}

// callsOf take the tree apart, pass over keys, use some and give up some, make
// frames, and at last close.
func callsOf(members int) []func(*epoch.Group) {
	var calls []func(*epoch.Group)
	for i := range 400 {
		generation := 1 + i/members*3
		ahead := frameBy(mixed, members, i%members, generation, ascending(40))
		behind := frameBy(mixed, members, i%members, generation-1, ascending(40))
		calls = append(calls,
			func(g *epoch.Group) { g.Protect(ascending(40)) },
			func(g *epoch.Group) { g.Unprotect(ahead) },
			func(g *epoch.Group) { g.Unprotect(behind) })
	}
	return append(calls, func(g *epoch.Group) { g.Close() })
}

// dumpsAndWorks are what Dump and Work tell ahead of the first call of a Group
// and behind each.
func dumpsAndWorks(g *epoch.Group, calls []func(*epoch.Group)) (dumps []string, works []int) {
	dumps, works = append(dumps, inShort(g.Dump())), append(works, g.Work())
	for _, call := range calls {
		call(g)
		dumps, works = append(dumps, inShort(g.Dump())), append(works, g.Work())
	}
	return dumps, works
}

// mustGoThrough asks until all calls are over, and once more: what is told must
// be what stands between two of them, and go forth with them, never back.
func mustGoThrough[T comparable](t *testing.T, what string, over *atomic.Bool, states []T, ask func() T) {
	at := 0
	for last := false; !last; {
		last = over.Load()
		told := ask()
		further := slices.Index(states[at:], told)
		if further < 0 {
			t.Errorf("P2: among other calls %s tells %v, which is so between no two of them", what, told)
			return
		}
		at += further
	}
}

func TestDumpAndWorkAmongOtherCalls(t *testing.T) {
	calls := callsOf(16)
	dumps, works := dumpsAndWorks(newGroup(t, mixed, 16, 3), calls)
	g := newGroup(t, mixed, 16, 3)
	var over atomic.Bool
	atOnce(5, func(i int) {
		switch i {
		case 0:
			for _, call := range calls {
				call(g)
			}
			over.Store(true)
		case 1, 2:
			mustGoThrough(t, "Dump", &over, dumps, func() string { return inShort(g.Dump()) })
		default:
			mustGoThrough(t, "Work", &over, works, g.Work)
		}
	})
	mustBeOver(t, g, "behind many calls", works[len(works)-1])
}

func TestCloseAtTheSameTime(t *testing.T) {
	for _, count := range []int{2, 3, 8} {
		for range 300 {
			g := newGroup(t, mixed, 4, 2)
			mustUnprotect(t, g, frameBy(mixed, 4, 1, 3, nil), 1, 3, nil)
			work := g.Work()
			var ok, closed atomic.Int64
			atOnce(count, func(int) {
				switch g.Close() {
				case api.OK:
					ok.Add(1)
				case api.ErrClosed:
					closed.Add(1)
				}
			})
			if ok.Load() != 1 || int(closed.Load()) != count-1 {
				t.Errorf("P15: of %d at the same time, %d close and %d answer ErrClosed", count, ok.Load(), closed.Load())
			}
			mustBeOver(t, g, "at the same time", work)
		}
	}
}

// answersUntilClosed are how many of the calls are answered by OK, ahead of the
// first that is answered by ErrClosed.
func answersUntilClosed(t *testing.T, count int, call func(i int) api.Errno) int64 {
	fine := int64(0)
	for i := range count {
		switch err := call(i); err {
		case api.OK:
			fine++
		case api.ErrClosed:
			return fine
		case api.ErrConsumed:
		default:
			t.Errorf("P1: among other calls the answer is %d", err)
		}
	}
	return fine
}

// Two send, two read the same frames, and in the midst of it two close: what was
// answered ahead of that is all that was work.
func TestCloseAmongOtherCalls(t *testing.T) {
	frames := framesOf(6, 1, 3000)
	for pause := range 40 {
		g := newGroup(t, mixed, 6, 0)
		var made, opened, closed atomic.Int64
		atOnce(6, func(i int) {
			switch i {
			case 0, 1:
				made.Add(answersUntilClosed(t, 3000, func(int) api.Errno {
					_, err := g.Protect(ascending(40))
					return err
				}))
			case 2, 3:
				opened.Add(answersUntilClosed(t, 3000, func(i int) api.Errno {
					_, err := g.Unprotect(frames[i])
					return err
				}))
			default:
				for range pause * pause {
					g.Dump()
				}
				closed.Add(answersUntilClosed(t, 1, func(int) api.Errno { return g.Close() }))
				mustBeOver(t, g, "among other calls", g.Work())
			}
		})
		if closed.Load() != 1 {
			t.Errorf("P15: of two at the same time %d close", closed.Load())
		}
		alone := newGroup(t, mixed, 6, 0)
		for range made.Load() {
			mustProtect(t, alone, ascending(40))
		}
		for generation := range int(opened.Load()) {
			mustUnprotect(t, alone, frames[generation], 1, generation, textOf(generation))
		}
		if got, want := g.Work(), alone.Work(); got != want {
			t.Errorf("P14: %d were made and %d opened, and the work is %d, not %d", made.Load(), opened.Load(), got, want)
		}
	}
}

// Of several Groups each may be called by a goroutine of its own.
func TestGroupsAtTheSameTime(t *testing.T) {
	frames := make([][][]byte, 16)
	atOnce(16, func(own int) {
		g, err := epoch.New(mixed, 16, own)
		if err != api.OK {
			t.Errorf("P7: New of %d of 16 = %d", own, err)
			return
		}
		for range 20 {
			frame, _ := g.Protect(ascending(9))
			frames[own] = append(frames[own], frame)
		}
		if err := g.Close(); err != api.OK {
			t.Errorf("P15: Close of %d of 16 = %d", own, err)
		}
	})
	for own := range frames {
		for generation, frame := range frames[own] {
			if want := frameBy(mixed, 16, own, generation, ascending(9)); !bytes.Equal(frame, want) {
				t.Errorf("P8: frame %d of member %d = %x, not %x", generation, own, frame, want)
			}
		}
	}
}
