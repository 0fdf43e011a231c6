package epoch_test

import (
	"bytes"
	"math"
	"math/rand/v2"
	"reflect"
	"slices"
	"testing"

	"epoch/api"
	"epoch/epoch"
)

// These hold P1 and P2 for every call. (Their errors, and what stands beside
// them, are held where each call is; Close, and the calls behind it, in
// close_test.go; calls at the same time in apart_test.go.)

var (
	oddNumbers = []int{0, 1, -1, 1<<31 - 1, 1 << 31, 1<<32 - 1, 1 << 32, -1 << 32, math.MaxInt64, math.MinInt64}
	oddLabels  = []string{"", "\x00", "\xff\xfe", "key", "\xc3\xa9", string(make([]byte, 5000))}
	oddBytes   = [][]byte{nil, {}, {0}, {255, 255, 255}, {0, 0, 0, 0}, {1, 2, 3, 4, 5}, make([]byte, 5000)}
	oddSecrets = []api.Secret{zero, mixed, {255, 255, 255, 255, 255, 255, 255, 255}}
)

// watched is a slice with room behind it, and a copy of all of that: what is
// handed in is written into neither before its end nor behind it.
type watched struct{ given, whole, before []byte }

func watch(content []byte) watched {
	whole := append(bytes.Clone(content), bytes.Repeat([]byte{0xaa}, 16)...)
	return watched{whole[:len(content)], whole, bytes.Clone(whole)}
}

func (w watched) mustBeUntouched(t *testing.T, what string) {
	t.Helper()
	if !bytes.Equal(w.whole, w.before) {
		t.Errorf("P2: %s was written into: %x, before %x", what, w.whole, w.before)
	}
}

func TestDeriveEndsAndAnswersTheSame(t *testing.T) {
	for _, s := range oddSecrets {
		for _, label := range oddLabels {
			for _, number := range oddNumbers {
				first := epoch.Derive(s, label, number)
				epoch.Derive(first, "other", 1)
				if again := epoch.Derive(s, label, number); again != first {
					t.Errorf("P2: Derive(%x, %q, %d) = %x, then %x", s, label, number, first, again)
				}
			}
		}
	}
}

func TestLeafAndKeyEndAtAllNumbers(t *testing.T) {
	for _, members := range append(oddNumbers, 16, 17) {
		for _, member := range append(oddNumbers, 15, 16) {
			if s, err := epoch.Leaf(mixed, members, member); err != api.OK && s != zero {
				t.Errorf("P1: Leaf of %d of %d = %x, %d", member, members, s, err)
			}
			for _, generation := range append(oddNumbers, api.Last, api.Last+1) {
				if s, err := epoch.Key(mixed, members, member, generation); err != api.OK && s != zero {
					t.Errorf("P1: Key of %d of %d at %d = %x, %d", member, members, generation, s, err)
				}
			}
		}
	}
}

func TestLeafAndKeyAnswerTheSame(t *testing.T) {
	leaf, _ := epoch.Leaf(mixed, 7, 5)
	key, _ := epoch.Key(mixed, 7, 5, 300)
	for _, c := range [][3]int{{7, 5, 301}, {7, 5, 299}, {7, 6, 300}, {16, 5, 0}, {0, 0, 0}, {7, 5, -1}} {
		epoch.Leaf(zero, c[0], c[1])
		epoch.Key(zero, c[0], c[1], c[2])
		if again, err := epoch.Leaf(mixed, 7, 5); again != leaf || err != api.OK {
			t.Errorf("P2: Leaf = %x, then %x, %d", leaf, again, err)
		}
		if again, err := epoch.Key(mixed, 7, 5, 300); again != key || err != api.OK {
			t.Errorf("P2: Key = %x, then %x, %d", key, again, err)
		}
	}
}

func TestSealAndOpenEndAtAllBytes(t *testing.T) {
	for _, key := range oddSecrets {
		for _, head := range oddBytes {
			for _, text := range oddBytes {
				mustNotOpen(t, "bytes that were not sealed", key, head, text)
				got, ok := epoch.Open(key, head, epoch.Seal(key, head, text))
				if !ok || !bytes.Equal(got, text) {
					t.Errorf("P1: Open of %d bytes sealed = %x, %v", len(text), got, ok)
				}
			}
		}
	}
}

func TestSealAndOpenAnswerTheSame(t *testing.T) {
	head, text := []byte{2, 1, 2}, ascending(20)
	first := epoch.Seal(mixed, head, text)
	epoch.Seal(zero, nil, []byte("another"))
	epoch.Open(zero, nil, []byte("not sealed"))
	if again := epoch.Seal(mixed, head, text); !bytes.Equal(again, first) {
		t.Errorf("P2: Seal = %x, then %x", first, again)
	}
	for range 3 {
		if got, ok := epoch.Open(mixed, head, first); !ok || !bytes.Equal(got, text) {
			t.Errorf("P2: Open once more = %x, %v", got, ok)
		}
	}
}

func TestWhatIsHandedInIsNotWrittenInto(t *testing.T) {
	for _, n := range []int{0, 1, 8, 40} {
		head, text := watch([]byte{2, 1, 2}), watch(ascending(n))
		sealed := watch(epoch.Seal(mixed, head.given, text.given))
		epoch.Open(mixed, head.given, sealed.given)
		epoch.Open(zero, head.given, sealed.given)
		head.mustBeUntouched(t, "the head")
		text.mustBeUntouched(t, "the text")
		sealed.mustBeUntouched(t, "what was sealed")
	}
}

func TestWhatComesOutIsTheCallers(t *testing.T) {
	head, text := []byte{2, 1, 2}, ascending(20)
	sealed := epoch.Seal(mixed, head, text)
	kept := bytes.Clone(sealed)
	clear(text)
	clear(head)
	if !bytes.Equal(sealed, kept) {
		t.Error("P2: what Seal gave changes with what it was given")
	}
	opened, _ := epoch.Open(mixed, []byte{2, 1, 2}, sealed)
	clear(sealed)
	if !bytes.Equal(opened, ascending(20)) {
		t.Error("P2: what Open gave changes with what it was given")
	}
	clear(opened)
	if !bytes.Equal(epoch.Seal(mixed, []byte{2, 1, 2}, ascending(20)), kept) {
		t.Error("P2: Seal answers otherwise when its last answer is overwritten")
	}
	if again, ok := epoch.Open(mixed, []byte{2, 1, 2}, kept); !ok || !bytes.Equal(again, ascending(20)) {
		t.Error("P2: Open answers otherwise when its last answer is overwritten")
	}
}

func TestNewEndsAtAllNumbers(t *testing.T) {
	for _, members := range append(oddNumbers, 16, 17) {
		for _, own := range append(oddNumbers, 15, 16) {
			if g, err := epoch.New(mixed, members, own); (g == nil) != (err == api.ErrGroup) {
				t.Errorf("P1: New of %d of %d = %v, %d", own, members, g, err)
			}
		}
	}
}

func TestProtectEndsAtAllBytes(t *testing.T) {
	for _, root := range oddSecrets {
		g := newGroup(t, root, 16, 15)
		for _, text := range oddBytes {
			if frame, err := g.Protect(text); (frame == nil) != (err == api.ErrText) {
				t.Errorf("P1: Protect of %d bytes = %x, %d", len(text), frame, err)
			}
		}
	}
}

func TestUnprotectEndsAtAllBytes(t *testing.T) {
	random := rand.New(rand.NewPCG(5, 6))
	for _, root := range oddSecrets {
		g, m := newGroup(t, root, 16, 15), newModel(root, 16, 15)
		for _, frame := range oddBytes {
			mustAgree(t, g, m, "odd bytes", frame)
		}
		for range 3000 {
			frame := make([]byte, random.IntN(50))
			for i := range frame {
				frame[i] = byte(random.IntN(256))
			}
			if len(frame) > 2 && random.IntN(4) > 0 {
				frame[0], frame[1], frame[2] = frame[0]%18, 0, frame[2]%8
			}
			mustAgree(t, g, m, "any bytes", frame)
		}
	}
}

// Of two Groups of one beginning, the one is called among other calls and its
// answers are overwritten: both must answer the same.
func TestAGroupAnswersByItsOwnCallsAlone(t *testing.T) {
	plain, among, other := newGroup(t, mixed, 11, 9), newGroup(t, mixed, 11, 9), newGroup(t, mixed, 11, 9)
	for i := range 50 {
		mustProtect(t, other, ascending(3))
		text := ascending(i % 41)
		frame := mustProtect(t, among, text)
		clear(text)
		if want := mustProtect(t, plain, ascending(i%41)); !bytes.Equal(frame, want) {
			t.Errorf("P2: frame %d is %x, among other calls %x", i, want, frame)
		}
		clear(frame)
		comes := frameBy(mixed, 11, i%9, i/9*3+i%4, ascending(i%41))
		message, err := among.Unprotect(comes)
		clear(comes)
		want, wantErr := plain.Unprotect(frameBy(mixed, 11, i%9, i/9*3+i%4, ascending(i%41)))
		if !reflect.DeepEqual(message, want) || err != wantErr {
			t.Errorf("P2: message %d is %v, %d, among other calls %v, %d", i, want, wantErr, message, err)
		}
		clear(message.Text)
		epoch.Key(zero, 11, 9, i)
		if got, want := among.Dump(), plain.Dump(); !slices.Equal(got, want) {
			t.Errorf("P2: behind frame %d Dump tells %v, among other calls %v", i, want, got)
		}
		clear(among.Dump())
		if got, want := among.Work(), plain.Work(); got != want {
			t.Errorf("P2: behind frame %d Work tells %d, among other calls %d", i, want, got)
		}
	}
}

func TestWhatIsProtectedIsNotWrittenInto(t *testing.T) {
	g := newGroup(t, mixed, 3, 1)
	for _, n := range []int{0, 1, 8, 39, 40, 41} {
		text := watch(ascending(n))
		g.Protect(text.given)
		text.mustBeUntouched(t, "the text")
	}
}

func TestFramesShareNoMemory(t *testing.T) {
	g := newGroup(t, mixed, 3, 1)
	first := mustProtect(t, g, ascending(10))
	before := bytes.Clone(first)
	second := mustProtect(t, g, ascending(10))
	clear(second[:cap(second)])
	if !bytes.Equal(first, before) {
		t.Errorf("P2: the frame %x became %x with another", before, first)
	}
}

func TestWhatIsUnprotectedIsNotWrittenInto(t *testing.T) {
	g := newGroup(t, mixed, 3, 1)
	for _, generation := range []int{5, 5, 4, 4, 0, 20} {
		for _, n := range []int{0, 1, 8, 39, 40} {
			frame := watch(frameBy(mixed, 3, 2, generation, ascending(n)))
			g.Unprotect(frame.given)
			frame.mustBeUntouched(t, "the frame")
			turned := watch(append(frame.given[:3:3], make([]byte, n+4)...))
			g.Unprotect(turned.given)
			turned.mustBeUntouched(t, "a frame that does not open")
		}
	}
}

func TestMessagesShareNoMemory(t *testing.T) {
	g := newGroup(t, mixed, 3, 1)
	var messages []epoch.Message
	for _, generation := range []int{4, 0, 1, 5} {
		frame := frameBy(mixed, 3, 2, generation, ascending(10))
		message, err := g.Unprotect(frame)
		if err != api.OK {
			t.Errorf("P9: frame %d: %d", generation, err)
		}
		clear(frame)
		for _, other := range messages {
			clear(other.Text[:cap(other.Text)])
		}
		if !bytes.Equal(message.Text, ascending(10)) {
			t.Errorf("P2: the text of frame %d became %x", generation, message.Text)
		}
		messages = append(messages, message)
	}
	clear(messages[len(messages)-1].Text)
	mustUnprotect(t, g, frameBy(mixed, 3, 2, 2, ascending(10)), 2, 2, ascending(10))
}
