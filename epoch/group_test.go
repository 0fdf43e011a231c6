package epoch_test

import (
	"bytes"
	"encoding/hex"
	"reflect"
	"testing"

	"epoch/api"
	"epoch/epoch"
)

func newGroup(t *testing.T, root api.Secret, members, own int) *epoch.Group {
	t.Helper()
	g, err := epoch.New(root, members, own)
	if g == nil || err != api.OK {
		t.Fatalf("P7: New(%x, %d, %d) = %v, %d", root, members, own, g, err)
	}
	return g
}

func mustProtect(t *testing.T, g *epoch.Group, text []byte) []byte {
	t.Helper()
	frame, err := g.Protect(text)
	if err != api.OK {
		t.Fatalf("P8: Protect(%x) = %x, %d", text, frame, err)
	}
	return frame
}

// protectTimes uses up generations, with texts of no bytes.
func protectTimes(t *testing.T, g *epoch.Group, times int) {
	t.Helper()
	for range times {
		mustProtect(t, g, nil)
	}
}

// mustNotProtect holds P8's errors, with P1's empty result and nothing changed.
func mustNotProtect(t *testing.T, g *epoch.Group, text []byte, want api.Errno) {
	t.Helper()
	items, work := g.Dump(), g.Work()
	if frame, err := g.Protect(text); frame != nil || err != want {
		t.Errorf("P1, P8: Protect of %d bytes = %x, %d, not %d", len(text), frame, err, want)
	}
	if after := g.Dump(); !reflect.DeepEqual(after, items) {
		t.Errorf("P1: the error %d changes what is kept: %v, before %v", want, after, items)
	}
	if after := g.Work(); after != work {
		t.Errorf("P14: the error %d is work: %d, before %d", want, after, work)
	}
}

// frameBy is the frame as the document words it, out of calls that are held to
// its words on their own.
func frameBy(root api.Secret, members, member, generation int, text []byte) []byte {
	key, _ := epoch.Key(root, members, member, generation)
	head := []byte{byte(member), byte(generation / 256), byte(generation % 256)}
	return append(bytes.Clone(head), epoch.Seal(key, head, text)...)
}

func TestNewOfNoSuchMember(t *testing.T) {
	for _, c := range notInAnyGroup {
		if g, err := epoch.New(mixed, c[0], c[1]); g != nil || err != api.ErrGroup {
			t.Errorf("P1, P7: New of %d of %d = %v, %d", c[1], c[0], g, err)
		}
	}
}

func TestNewAnswersForExactlyTheMembersThereAre(t *testing.T) {
	for members := -3; members <= 20; members++ {
		for own := -3; own <= 20; own++ {
			g, err := epoch.New(mixed, members, own)
			is := members >= 1 && members <= 16 && own >= 0 && own <= members-1
			if is != (g != nil) || is != (err == api.OK) || !is && err != api.ErrGroup {
				t.Errorf("P7: New of %d of %d = %v, %d", own, members, g, err)
			}
		}
	}
}

func TestNewKeepsTheRootAndNothingElse(t *testing.T) {
	for _, root := range oddSecrets {
		eachMember(func(members, own int, _ string) {
			g := newGroup(t, root, members, own)
			want := []api.Item{{Kind: api.Node, From: 0, To: members, Secret: root}}
			if got := g.Dump(); !reflect.DeepEqual(got, want) {
				t.Errorf("P7: of %d of %d at first %v is kept, not %v", own, members, got, want)
			}
			if work := g.Work(); work != 0 {
				t.Errorf("P7, P14: New of %d of %d is work: %d", own, members, work)
			}
		})
	}
}

func TestProtectGivesTheDocumentsValues(t *testing.T) {
	// Worked out apart from the program; the head of the first is the document's
	// example.
	for _, c := range []struct {
		root                     api.Secret
		members, own, generation int
		text                     string
		want                     string
	}{
		{zero, 3, 2, 258, "a text of nine", "020102d62d19526e128b36a62feaf981dfe4ac178f"},
		{zero, 1, 0, 0, "", "0000004d749ac3"},
		{mixed, 1, 0, 1, "one", "0000015917ae8963f7dc"},
		{mixed, 2, 1, 0, "12345678", "010000026ba82a7f552a44cb3571f0"},
		{mixed, 5, 4, 255, "123456789", "0400ff85050f4ae26dbc686351a8e4d0"},
		{mixed, 7, 0, 256, string(ascending(40)), "000100e87f25717f892834ac36ed41731f5410d3e3054a887a6ddac07957619a851537e10af102eb25a6f2ee297472"},
		{mixed, 11, 9, 3, string(make([]byte, 17)), "090003b2f652490a7700024db348642ba356430c47acd639"},
		{mixed, 16, 0, 65534, "last but one", "00fffecc58a7e88be035e4bdf434c67ac2c92d"},
		{mixed, 16, 15, 65535, string(ascending(40)), "0fffffd9e71a29b79672fe31586c0d8ec07a2b9a65957e36234a20731a5799d8e5d275568edd5e37d6e7c20c73a714"},
	} {
		g := newGroup(t, c.root, c.members, c.own)
		protectTimes(t, g, c.generation)
		if got := hex.EncodeToString(mustProtect(t, g, []byte(c.text))); got != c.want {
			t.Errorf("P8: frame %d of member %d of %d = %s, not %s", c.generation, c.own, c.members, got, c.want)
		}
	}
}

func TestFramesOfEveryMemberOfEveryGroup(t *testing.T) {
	for _, root := range oddSecrets {
		eachMember(func(members, own int, _ string) {
			g := newGroup(t, root, members, own)
			for generation := range 12 {
				text := ascending(generation * 40 / 11)
				want := frameBy(root, members, own, generation, text)
				if got := mustProtect(t, g, text); !bytes.Equal(got, want) {
					t.Errorf("P8: frame %d of member %d of %d = %x, not %x", generation, own, members, got, want)
				}
			}
		})
	}
}

func TestMembersThatProtectInTurns(t *testing.T) {
	for _, members := range []int{2, 5, 7, 16} {
		groups := make([]*epoch.Group, members)
		for own := range groups {
			groups[own] = newGroup(t, mixed, members, own)
		}
		next := make([]int, members)
		for i := range 200 {
			own := i * i % members
			text := ascending(i % 41)
			want := frameBy(mixed, members, own, next[own], text)
			if got := mustProtect(t, groups[own], text); !bytes.Equal(got, want) {
				t.Errorf("P8: in turns, frame %d of member %d of %d = %x, not %x", next[own], own, members, got, want)
			}
			next[own]++
		}
	}
}

func TestProtectOfEveryLength(t *testing.T) {
	g := newGroup(t, mixed, 3, 1)
	for n := range 41 {
		frame := mustProtect(t, g, ascending(n))
		if want := frameBy(mixed, 3, 1, n, ascending(n)); !bytes.Equal(frame, want) || len(frame) != n+7 {
			t.Errorf("P8: %d bytes are framed as %x, not %x", n, frame, want)
		}
	}
}

func TestProtectOfNoBytes(t *testing.T) {
	for _, text := range [][]byte{nil, {}} {
		g := newGroup(t, zero, 1, 0)
		if got := hex.EncodeToString(mustProtect(t, g, text)); got != "0000004d749ac3" {
			t.Errorf("P8: no bytes are framed as %s", got)
		}
	}
}

func TestATextThatIsTooLong(t *testing.T) {
	for _, before := range []int{0, 1, 5} {
		g := newGroup(t, mixed, 6, 4)
		protectTimes(t, g, before)
		for _, n := range []int{41, 42, 47, 48, 255, 256, 296, 65536 + 40} {
			mustNotProtect(t, g, make([]byte, n), api.ErrText)
		}
		if got, want := mustProtect(t, g, ascending(40)), frameBy(mixed, 6, 4, before, ascending(40)); !bytes.Equal(got, want) {
			t.Errorf("P1, P8: behind a text too long, the frame is %x, not %x", got, want)
		}
	}
}

func TestProtectUpToTheLastGenerationAndBehind(t *testing.T) {
	g := newGroup(t, mixed, 3, 0)
	for generation := range api.Last + 1 {
		frame := mustProtect(t, g, []byte("text"))
		if told := int(frame[1])*256 + int(frame[2]); frame[0] != 0 || told != generation {
			t.Fatalf("P8: the head of frame %d is %x", generation, frame[:3])
		}
		if generation%4369 == 0 || generation > api.Last-3 {
			if want := frameBy(mixed, 3, 0, generation, []byte("text")); !bytes.Equal(frame, want) {
				t.Errorf("P8: frame %d = %x, not %x", generation, frame, want)
			}
		}
	}
	for range 3 {
		mustNotProtect(t, g, nil, api.ErrSpent)
		mustNotProtect(t, g, make([]byte, 40), api.ErrSpent)
		// Both apply, and that of the text is named first.
		mustNotProtect(t, g, make([]byte, 41), api.ErrText)
	}
}
