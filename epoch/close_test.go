package epoch_test

import (
	"bytes"
	"fmt"
	"math/rand/v2"
	"reflect"
	"slices"
	"testing"

	"epoch/api"
	"epoch/epoch"
)

// mustClose ends an epoch that is not over yet.
func mustClose(t *testing.T, g *epoch.Group, when string) {
	t.Helper()
	work := g.Work()
	if err := g.Close(); err != api.OK {
		t.Errorf("P15: %s Close = %d", when, err)
	}
	mustBeOver(t, g, when, work)
}

// mustBeOver asks for everything but a frame, and more than once, since what is
// over stays over.
func mustBeOver(t *testing.T, g *epoch.Group, when string, work int) {
	t.Helper()
	for range 2 {
		if items := g.Dump(); len(items) != 0 {
			t.Errorf("P15: %s, behind Close, %v is kept", when, items)
		}
		for _, size := range []int{0, 1, 40, 41, 5000} {
			mustNotProtect(t, g, make([]byte, size), api.ErrClosed)
		}
		if err := g.Close(); err != api.ErrClosed {
			t.Errorf("P15: %s, once more, Close = %d", when, err)
		}
		if now := g.Work(); now != work {
			t.Errorf("P15: %s, behind Close, the work is %d, it was %d", when, now, work)
		}
	}
}

// mustReadNothing hands in frames of every kind, right and wrong.
func mustReadNothing(t *testing.T, g *epoch.Group, members, own int) {
	t.Helper()
	for _, size := range []int{0, 1, 6, 48, 49, 5000} {
		mustNotUnprotect(t, g, fmt.Sprintf("%d bytes, behind Close,", size), make([]byte, size), api.ErrClosed)
	}
	mustNotUnprotect(t, g, "nil, behind Close,", nil, api.ErrClosed)
	for _, nobody := range []int{members, 16, 255} {
		mustNotUnprotect(t, g, "nobody's, behind Close,", append([]byte{byte(nobody)}, make([]byte, 10)...), api.ErrClosed)
	}
	for member := range members {
		for _, generation := range []int{0, 1, 2, 5, 6, 7, 300} {
			what := fmt.Sprintf("of %d, whose own is %d, frame %d, behind Close,", member, own, generation)
			frame := frameBy(mixed, members, member, generation, textOf(generation))
			mustNotUnprotect(t, g, what, frame, api.ErrClosed)
			frame[len(frame)-1] ^= 1
			mustNotUnprotect(t, g, what, frame, api.ErrClosed)
		}
		mustNotUnprotect(t, g, "the last generation, behind Close,", []byte{byte(member), 255, 255, 0, 0, 0, 0}, api.ErrClosed)
	}
}

func TestCloseOfANewGroup(t *testing.T) {
	eachMember(func(members, own int, _ string) {
		g := newGroup(t, mixed, members, own)
		mustClose(t, g, fmt.Sprintf("of %d of %d, at first,", own, members))
		mustReadNothing(t, g, members, own)
		if work := g.Work(); work != 0 {
			t.Errorf("P14, P15: at first, behind Close, the work is %d", work)
		}
	})
}

func TestCloseOfAGroupThatHasProtected(t *testing.T) {
	eachMember(func(members, own int, _ string) {
		g := newGroup(t, mixed, members, own)
		protectTimes(t, g, 1+members%3)
		if g.Work() == 0 || len(g.Dump()) == 0 {
			t.Errorf("P13: of %d of %d nothing is kept behind Protect", own, members)
		}
		mustClose(t, g, fmt.Sprintf("of %d of %d, behind Protect,", own, members))
		mustReadNothing(t, g, members, own)
	})
}

// Behind frame 5 four keys are kept, behind frame 2 three of them.
func TestCloseOfAGroupThatHasOpened(t *testing.T) {
	eachPair(func(members, own, member int) {
		g := newGroup(t, mixed, members, own)
		for _, generation := range []int{5, 2} {
			frame := frameBy(mixed, members, member, generation, textOf(generation))
			mustUnprotect(t, g, frame, member, generation, textOf(generation))
		}
		if kept := generationsKept(g, member); kept != "1 3 4" {
			t.Errorf("P10: the keys of %s are kept", kept)
		}
		mustClose(t, g, fmt.Sprintf("of %d of %d, that has read %d,", own, members, member))
		mustReadNothing(t, g, members, own)
	})
}

// Everyone has been heard, so that of the tree nothing is left, and keys of all
// others are kept.
func TestCloseOfAGroupThatKeepsKeysOfEveryMember(t *testing.T) {
	for members := 1; members <= 16; members++ {
		own := members / 2
		g := newGroup(t, mixed, members, own)
		protectTimes(t, g, 3)
		for member := range members {
			if member != own {
				mustUnprotect(t, g, frameBy(mixed, members, member, 4, nil), member, 4, nil)
			}
		}
		if kept := len(g.Dump()); kept != members+4*(members-1) {
			t.Errorf("P13: of %d members %d things are kept", members, kept)
		}
		mustClose(t, g, fmt.Sprintf("with keys of all of %d members,", members))
		mustReadNothing(t, g, members, own)
	}
}

func TestCloseOnceMore(t *testing.T) {
	eachMember(func(members, own int, _ string) {
		g := newGroup(t, mixed, members, own)
		for i, want := range []api.Errno{api.OK, api.ErrClosed, api.ErrClosed, api.ErrClosed, api.ErrClosed} {
			if err := g.Close(); err != want {
				t.Errorf("P15: of %d of %d, Close number %d = %d, not %d", own, members, i+1, err, want)
			}
		}
	})
}

// ErrSpent applies too, and ErrClosed is named first.
func TestCloseBehindTheLastGeneration(t *testing.T) {
	for _, c := range []struct{ members, own int }{{1, 0}, {3, 2}, {16, 7}} {
		g := newGroup(t, mixed, c.members, c.own)
		protectTimes(t, g, api.Last+1)
		mustNotProtect(t, g, nil, api.ErrSpent)
		mustClose(t, g, "behind the last generation")
		mustReadNothing(t, g, c.members, c.own)
	}
}

func TestCloseBehindTheLastGenerationOfAnother(t *testing.T) {
	sender, g := newGroup(t, mixed, 2, 1), newGroup(t, mixed, 2, 0)
	var frames [][]byte
	for range api.Last + 1 {
		frames = append(frames, mustProtect(t, sender, nil))
	}
	// Every sixth: the last of them is the last generation.
	for generation := 3; generation <= api.Last; generation += 6 {
		mustUnprotect(t, g, frames[generation], 1, generation, nil)
	}
	if kept := withoutSecrets(g); kept != "N0-1 K1.65531 K1.65532 K1.65533 K1.65534" {
		t.Errorf("P13: behind the last generation of another %s is kept", kept)
	}
	mustClose(t, g, "behind the last generation of another")
	for _, generation := range []int{0, 65529, 65530, 65534, 65535} {
		mustNotUnprotect(t, g, "a frame, behind Close,", frames[generation], api.ErrClosed)
	}
}

// Frames of all kinds come, and ahead of each of them one of the Groups that
// have seen the same so far is closed.
func TestCloseAnywhereAmongFrames(t *testing.T) {
	random := rand.New(rand.NewPCG(7, 8))
	for members := 2; members <= 16; members++ {
		own := random.IntN(members)
		var groups []*epoch.Group
		for range 30 {
			groups = append(groups, newGroup(t, mixed, members, own))
		}
		m := newModel(mixed, members, own)
		for len(groups) > 1 {
			mustClose(t, groups[0], fmt.Sprintf("ahead of the last %d frames", len(groups)-1))
			groups = groups[1:]
			frame := harm(frameBy(mixed, members, random.IntN(members), random.IntN(8), textOf(random.IntN(8))), random)
			want, wantErr := m.unprotect(frame)
			for _, g := range groups {
				if got, err := g.Unprotect(frame); !reflect.DeepEqual(got, want) || err != wantErr {
					t.Errorf("P2, P9: Unprotect(%x) = %v, %d, not %v, %d, where others are closed", frame, got, err, want, wantErr)
				}
			}
			mustKeep(t, groups[0], "where others are closed", m.dump())
		}
	}
}

// Of one root and one member there are several Groups: one is closed, one goes
// on, one begins behind it, and one goes on that nothing is near to.
func TestOtherGroupsGoOnBehindClose(t *testing.T) {
	eachPair(func(members, own, member int) {
		closed, other := newGroup(t, mixed, members, own), newGroup(t, mixed, members, own)
		sender := newGroup(t, mixed, members, member)
		frames := framesOf(members, member, 4)
		for _, g := range []*epoch.Group{closed, other} {
			mustProtect(t, g, nil)
			mustUnprotect(t, g, frames[2], member, 2, textOf(2))
		}
		items, work := other.Dump(), other.Work()
		mustClose(t, closed, "beside others")
		if !slices.Equal(other.Dump(), items) || other.Work() != work {
			t.Errorf("P2, P15: Close of one Group changes another of %d of %d", own, members)
		}
		for _, generation := range []int{0, 3, 1} {
			mustUnprotect(t, other, frames[generation], member, generation, textOf(generation))
		}
		begins := newGroup(t, mixed, members, own)
		for generation, g := range []*epoch.Group{begins, other} {
			if got, want := mustProtect(t, g, textOf(9)), frameBy(mixed, members, own, generation, textOf(9)); !bytes.Equal(got, want) {
				t.Errorf("P2, P15: behind Close of another Group, Protect = %x, not %x", got, want)
			}
		}
		mustUnprotect(t, sender, frameBy(mixed, members, own, 0, nil), own, 0, nil)
		mustBeOver(t, closed, "when others have gone on,", closed.Work())
		mustClose(t, other, "as the second of two")
	})
}

// P2: what came out is the caller's, also where it tells what is overwritten.
func TestWhatCameOutStaysBehindClose(t *testing.T) {
	g := newGroup(t, mixed, 5, 3)
	frame := mustProtect(t, g, ascending(20))
	message, err := g.Unprotect(frameBy(mixed, 5, 1, 4, ascending(30)))
	if err != api.OK {
		t.Errorf("P9: frame 4: %d", err)
	}
	items := g.Dump()
	frameBefore, itemsBefore := bytes.Clone(frame), slices.Clone(items)
	mustClose(t, g, "when something came out")
	if !bytes.Equal(frame, frameBefore) || !bytes.Equal(message.Text, ascending(30)) || !slices.Equal(items, itemsBefore) {
		t.Errorf("P2: Close changes what came out: %x, %v, %v", frame, message, items)
	}
}

// P2: what is handed in behind Close is not written into either.
func TestWhatIsHandedInBehindCloseIsNotWrittenInto(t *testing.T) {
	g := newGroup(t, mixed, 3, 1)
	mustClose(t, g, "at first")
	for _, size := range []int{0, 7, 40, 47, 60} {
		text, frame := watch(ascending(size)), watch(make([]byte, size))
		g.Protect(text.given)
		g.Unprotect(frame.given)
		text.mustBeUntouched(t, "the text")
		frame.mustBeUntouched(t, "the frame")
	}
}
