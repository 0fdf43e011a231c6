package epoch_test

import (
	"bytes"
	"encoding/hex"
	"fmt"
	"math/rand/v2"
	"reflect"
	"strconv"
	"strings"
	"testing"

	"epoch/api"
	"epoch/epoch"
)

func mustUnprotect(t *testing.T, g *epoch.Group, frame []byte, member, generation int, text []byte) {
	t.Helper()
	got, err := g.Unprotect(frame)
	if err != api.OK || got.Member != member || got.Generation != generation || !bytes.Equal(got.Text, text) {
		t.Errorf("P9: Unprotect(%x) = %v, %d, not %d, %d, %x", frame, got, err, member, generation, text)
	}
}

// mustNotUnprotect holds P9's errors, with P1's empty Message and nothing
// changed.
func mustNotUnprotect(t *testing.T, g *epoch.Group, what string, frame []byte, want api.Errno) {
	t.Helper()
	items, work := g.Dump(), g.Work()
	if got, err := g.Unprotect(frame); !reflect.DeepEqual(got, epoch.Message{}) || err != want {
		t.Errorf("P1, P9: Unprotect of %s, %x, = %v, %d, not %d", what, frame, got, err, want)
	}
	if after := g.Dump(); !reflect.DeepEqual(after, items) {
		t.Errorf("P1, P12: %s changes what is kept: %v, before %v", what, after, items)
	}
	if after := g.Work(); after != work && want != api.ErrSeal {
		t.Errorf("P14: %s, with the error %d, is work: %d, before %d", what, want, after, work)
	}
}

// eachPair goes through the groups of every size that has another member.
func eachPair(do func(members, own, member int)) {
	for members := 2; members <= 16; members++ {
		for own := range members {
			for member := range members {
				if member != own {
					do(members, own, member)
				}
			}
		}
	}
}

// textOf is a text by which a generation is known, of 0 to 40 bytes.
func textOf(generation int) []byte {
	text := ascending(generation * 7 % 41)
	for i := range text {
		text[i] += byte(generation)
	}
	return text
}

// framesOf are the first frames of a member.
func framesOf(members, member, count int) [][]byte {
	frames := make([][]byte, count)
	for generation := range frames {
		frames[generation] = frameBy(mixed, members, member, generation, textOf(generation))
	}
	return frames
}

// toldBy is a letter for each error: . is none, c consumed, f far, s a seal that
// does not fit, o one's own, b no frame.
func toldBy(err api.Errno) string { return string(".gtbocfs"[err]) }

func TestUnprotectGivesTheDocumentsValues(t *testing.T) {
	// The frames, and what is kept behind them, were worked out apart from the
	// program. The first is the document's example.
	for _, c := range []struct {
		root         api.Secret
		members, own int
		frames       string
		told         string
		kept         string
	}{
		{zero, 3, 2, "0100009830dee10686d3522e35975b892d3c9db499", ".",
			"N0-1:0005716b054f20b2 N2-3:737eaa98f5fea31c H1.1:09b7015afa873b43"},
		{zero, 3, 0, "0200039d816d20 01000166f6c000ec124ae7eb618f69 02000186757f1c46", "...",
			"N0-1:0005716b054f20b2 H1.2:139c92bc725123ab H2.4:8abab633104ad3bf K1.0:94cebca831bf0a35 K2.0:7c5c4e4319a43a73 K2.2:f463d1c985651ab7"},
		{mixed, 2, 1, "0000056366b2b634d9de932eef4c8e2f8749ba2952d6b2a8b14105411978b33ba30454697e72edcc3228a77c8e4a24 000000d39bb5cb3c160ee4d2282362 00000404957af4995c31ed", ".c.",
			"N1-2:a337bd6a700a64b9 H0.6:768abd1bbdccd8cd K0.1:03e0256118078964 K0.2:6d9a4f974a17fcec K0.3:1b65d62e72216d01"},
		{mixed, 7, 3, "060002d81ea85caaff79 0400001bf9b0059ec210e8 060002d81ea85caaff79 050006056acfc2d0b3c3 0300005456080fb9f633 0600086460cd2fa4ba4bb48e 060003c43b18d537", "..cfo.c",
			"N0-4:5dfb9194d4d707f7 N5-6:5e7b9a3c523103e0 H4.1:25cdded25627d0a8 H6.9:d5a1cfb7c68ccd83 K6.4:76c330e08f97d63e K6.5:22793718610cd6b5 K6.6:fa967e533422a48a K6.7:281da7df6bf787ba"},
		{mixed, 13, 0, "0c000591af37479c 0c000b743bb5b6e6 080001ee5109a431 0c00079781edd477 0c0006e44c89ca1a", "....c",
			"N0-8:5dfb9194d4d707f7 N9-10:c095d987c4487c0d N10-12:5e7b9a3c523103e0 H8.2:15c893a69530842d H12.12:44768420ad1b6d45 K8.0:223c00769bd3b93d K12.8:c787a90d052c5cc0 K12.9:0455e807083022f4 K12.10:0c8eff3bf97ddd74"},
		{mixed, 16, 15, "000000a385c4b7d6645234 0e0004f279943ebc76 070001857a08a9c4 0e0000fb225bc1 0e000ac03838498fdb3e 0e00022a59d1e811530eb9", ".....c",
			"N1-2:7d0fa625e63fed9d N2-4:3d11e2f32f4f1705 N4-6:f60f08e243692c3b N6-7:f00d569d631f5ffd N8-12:7016dfe240a134eb N12-14:7ab8fd4fd502a9b8 N15-16:ba02e976a6710293 H0.1:329899f3cb8e6cc8 H7.2:aa12d83908bd9bd5 H14.11:11838ac87d27bbca K7.0:d9430907decb469d K14.6:7025033556ceb821 K14.7:a335f788aa062773 K14.8:64085ec95b7fbbf7 K14.9:255b8b3315a0cced"},
	} {
		g := newGroup(t, c.root, c.members, c.own)
		told := ""
		for _, word := range strings.Fields(c.frames) {
			frame, _ := hex.DecodeString(word)
			_, err := g.Unprotect(frame)
			told += toldBy(err)
		}
		if kept := inShort(g.Dump()); told != c.told || kept != c.kept {
			t.Errorf("P9, P13: of %d of %d, behind %s, %s and %s is kept, not %s and %s", c.own, c.members, c.frames, told, kept, c.told, c.kept)
		}
	}
}

func TestUnprotectGivesTheTextsOfTheDocumentsValues(t *testing.T) {
	// The frames are those to which Protect is held.
	for _, c := range []struct {
		root                        api.Secret
		members, member, generation int
		frame, text                 string
	}{
		{zero, 3, 1, 0, "0100009830dee10686d3522e35975b892d3c9db499", "a text of nine"},
		{mixed, 2, 1, 0, "010000026ba82a7f552a44cb3571f0", "12345678"},
		{mixed, 2, 0, 5, "0000056366b2b634d9de932eef4c8e2f8749ba2952d6b2a8b14105411978b33ba30454697e72edcc3228a77c8e4a24", string(ascending(40))},
		{mixed, 11, 9, 3, "090003b2f652490a7700024db348642ba356430c47acd639", string(make([]byte, 17))},
		{mixed, 16, 14, 0, "0e0000fb225bc1", ""},
	} {
		g := newGroup(t, c.root, c.members, 1-min(c.member, 1))
		frame, _ := hex.DecodeString(c.frame)
		mustUnprotect(t, g, frame, c.member, c.generation, []byte(c.text))
	}
}

func TestFramesInOrderAndTwice(t *testing.T) {
	eachPair(func(members, own, member int) {
		g := newGroup(t, mixed, members, own)
		for generation, frame := range framesOf(members, member, 8) {
			mustUnprotect(t, g, frame, member, generation, textOf(generation))
			mustNotUnprotect(t, g, "a frame that was opened", frame, api.ErrConsumed)
		}
	})
}

// Any order of five leaves no more than 4 outstanding, so all of them open.
func TestFiveFramesInEveryOrder(t *testing.T) {
	frames := framesOf(3, 2, 5)
	var go5 func(order []int)
	go5 = func(order []int) {
		if len(order) < 5 {
			for i := range 5 {
				if !strings.Contains(fmt.Sprint(order), fmt.Sprint(i)) {
					go5(append(order[:len(order):len(order)], i))
				}
			}
			return
		}
		g := newGroup(t, mixed, 3, 0)
		for _, generation := range order {
			mustUnprotect(t, g, frames[generation], 2, generation, textOf(generation))
		}
		for _, frame := range frames {
			mustNotUnprotect(t, g, fmt.Sprint("a frame that was opened, in the order ", order), frame, api.ErrConsumed)
		}
	}
	go5(nil)
}

func TestFramesInOtherOrders(t *testing.T) {
	for _, c := range []struct{ order, want string }{
		{"0123456789", ".........."},
		{"9", "f"}, {"6", "f"}, {"5", "."}, {"06", ".."}, {"07", ".f"}, {"28", ".."}, {"29", ".f"},
		{"543210", ".....c"}, {"50", ".c"}, {"51", ".."}, {"4", "."}, {"40123", "....."},
		{"3132", "..c."}, {"3030", "..cc"}, {"00", ".c"}, {"10", ".."}, {"1010", "..cc"},
		{"5812", "..cc"}, {"58347667", "......cc"}, {"4567", "...."}, {"45670123", "........"}, {"4680", "...c"}, {"468135", "...c.."},
		{"2481035", "...cc.."}, {"420813567", "....c...."}, {"987", "fff"}, {"3956", "...."},
	} {
		for _, sizes := range [][3]int{{2, 0, 1}, {3, 2, 1}, {7, 1, 6}, {12, 5, 4}, {16, 15, 0}} {
			members, own, member := sizes[0], sizes[1], sizes[2]
			frames := framesOf(members, member, 10)
			g := newGroup(t, mixed, members, own)
			got := ""
			for _, digit := range c.order {
				message, err := g.Unprotect(frames[digit-'0'])
				got += toldBy(err)
				if err == api.OK && (message.Generation != int(digit-'0') || !bytes.Equal(message.Text, textOf(message.Generation))) {
					t.Errorf("P9: frame %c is %v", digit, message)
				}
			}
			if got != c.want {
				t.Errorf("P9: of %d of %d, frames %s: %s, not %s", own, members, c.order, got, c.want)
			}
		}
	}
}

// All sequences of five out of eight frames.
func TestEverySequenceAgreesWithTheModel(t *testing.T) {
	frames := framesOf(3, 1, 8)
	for number := range 8 * 8 * 8 * 8 * 8 {
		g, m := newGroup(t, mixed, 3, 2), newModel(mixed, 3, 2)
		for rest := number; rest > 0; rest /= 8 {
			mustAgree(t, g, m, fmt.Sprintf("a frame of the sequence %o", number), frames[rest%8])
		}
		if t.Failed() {
			return
		}
	}
}

// harm is what may befall a frame on its way.
func harm(frame []byte, random *rand.Rand) []byte {
	frame = bytes.Clone(frame)
	switch random.IntN(12) {
	case 0:
		frame[random.IntN(len(frame))] ^= 1 << random.IntN(8)
	case 1:
		frame = frame[:random.IntN(len(frame))]
	case 2:
		frame = append(frame, make([]byte, random.IntN(50))...)
	case 3:
		frame[0] = byte(random.IntN(20))
	case 4:
		frame[2] += byte(random.IntN(16)) - 8
	}
	return frame
}

// Members of groups of every size send, and their frames come in order or not,
// twice, changed, or never; in between the receiver sends too.
func TestTrafficAgreesWithTheModel(t *testing.T) {
	random := rand.New(rand.NewPCG(1, 2))
	for members := 2; members <= 16; members++ {
		for _, own := range []int{0, members / 2, members - 1} {
			g, m := newGroup(t, mixed, members, own), newModel(mixed, members, own)
			seen := map[api.Errno]int{}
			for range 400 {
				if random.IntN(10) == 0 {
					text := ascending(random.IntN(41))
					if got, want := mustProtect(t, g, text), m.protect(text); !bytes.Equal(got, want) {
						t.Errorf("P8: among others, a frame is %x, not %x", got, want)
					}
					continue
				}
				member := random.IntN(members)
				generation := max(0, m.next[member]+random.IntN(14)-7)
				frame := frameBy(mixed, members, member, generation, ascending(random.IntN(41)))
				seen[mustAgree(t, g, m, "a frame in traffic", harm(frame, random))]++
			}
			for err := api.ErrFrame; err <= api.ErrSeal; err++ {
				if seen[err] == 0 || seen[api.OK] < 50 {
					t.Errorf("the traffic of %d members is not mixed enough: %v", members, seen)
				}
			}
		}
	}
}

// P12's last words: all frames of all members open at all others, each once, as
// long as they stay within what may be passed over and stay outstanding.
func TestEveryoneReadsEveryone(t *testing.T) {
	random := rand.New(rand.NewPCG(3, 4))
	for members := 2; members <= 16; members++ {
		groups := make([]*epoch.Group, members)
		for own := range groups {
			groups[own] = newGroup(t, mixed, members, own)
		}
		for turn := range 4 {
			for member, sender := range groups {
				var frames [][]byte
				for i := range 5 {
					frames = append(frames, mustProtect(t, sender, textOf(5*turn+i)))
				}
				for own, receiver := range groups {
					if own == member {
						mustNotUnprotect(t, receiver, "one's own frame", frames[0], api.ErrOwn)
						continue
					}
					for _, i := range random.Perm(5) {
						mustUnprotect(t, receiver, frames[i], member, 5*turn+i, textOf(5*turn+i))
					}
				}
			}
		}
	}
}

func TestFramesOfEverySize(t *testing.T) {
	for members := 1; members <= 16; members++ {
		for own := range members {
			g := newGroup(t, mixed, members, own)
			for size := range 120 {
				frame := make([]byte, size)
				if size > 0 {
					frame[0] = byte((own + 1) % members)
				}
				want := api.ErrSeal
				if size < 7 || size > 47 {
					want = api.ErrFrame
				} else if members == 1 {
					want = api.ErrOwn
				}
				mustNotUnprotect(t, g, fmt.Sprintf("%d bytes", size), frame, want)
			}
			mustNotUnprotect(t, g, "nil", nil, api.ErrFrame)
			mustNotUnprotect(t, g, "many bytes", make([]byte, 65536+20), api.ErrFrame)
		}
	}
}

func TestTextsOfEverySize(t *testing.T) {
	g := newGroup(t, mixed, 5, 0)
	for size := range 41 {
		frame := frameBy(mixed, 5, 4, size, ascending(size))
		got, err := g.Unprotect(frame)
		if err != api.OK || got.Text == nil || !bytes.Equal(got.Text, ascending(size)) {
			t.Errorf("P9: a text of %d bytes is %v, %d", size, got, err)
		}
	}
	tooLong := frameBy(mixed, 5, 4, 41, ascending(41))
	mustNotUnprotect(t, g, "a text of 41 bytes, truly sealed", tooLong, api.ErrFrame)
}

func TestFramesOfNoSuchMember(t *testing.T) {
	for members := 1; members <= 16; members++ {
		g := newGroup(t, mixed, members, 0)
		for member := members; member < 256; member++ {
			frame := make([]byte, 7)
			frame[0] = byte(member)
			mustNotUnprotect(t, g, fmt.Sprintf("a frame of %d in a group of %d", member, members), frame, api.ErrFrame)
			if member < 16 {
				mustNotUnprotect(t, g, "a frame of a greater group", frameBy(mixed, 16, member, 0, nil), api.ErrFrame)
			}
		}
	}
}

func TestOnesOwnFrames(t *testing.T) {
	eachMember(func(members, own int, _ string) {
		g := newGroup(t, mixed, members, own)
		mustNotUnprotect(t, g, "one's own, not made yet,", frameBy(mixed, members, own, 0, nil), api.ErrOwn)
		frame := mustProtect(t, g, ascending(5))
		mustNotUnprotect(t, g, "one's own", frame, api.ErrOwn)
		mustNotUnprotect(t, g, "one's own, of a generation far ahead,", []byte{byte(own), 255, 255, 0, 0, 0, 0}, api.ErrOwn)
		frame[len(frame)-1] ^= 1
		mustNotUnprotect(t, g, "one's own, with a byte turned,", frame, api.ErrOwn)
		mustNotUnprotect(t, g, "one's own, cut short,", frame[:6], api.ErrFrame)
		mustNotUnprotect(t, g, "one's own, too long,", append(frame, make([]byte, 48-len(frame))...), api.ErrFrame)
	})
}

func TestFramesAheadOfTheNext(t *testing.T) {
	for _, next := range []int{0, 1, 4, 250, 255, 256, 1000} {
		for _, between := range []int{0, 1, 4, 5, 6, 7, 100, 255, 256, 257} {
			g := newGroup(t, mixed, 6, 1)
			for generation := range next {
				g.Unprotect(frameBy(mixed, 6, 5, generation, nil))
			}
			frame := frameBy(mixed, 6, 5, next+between, ascending(9))
			what := fmt.Sprintf("a frame with %d between, from %d on,", between, next)
			if between <= 5 {
				mustUnprotect(t, g, frame, 5, next+between, ascending(9))
				mustNotUnprotect(t, g, what, frame, api.ErrConsumed)
				continue
			}
			mustNotUnprotect(t, g, what, frame, api.ErrFar)
			// A seal that does not fit is named behind it.
			mustNotUnprotect(t, g, what, frame[:7], api.ErrFar)
			mustUnprotect(t, g, frameBy(mixed, 6, 5, next, nil), 5, next, nil)
		}
	}
}

// turnedBytes are all frames that have one bit turned, and others in which all
// bits of one byte are.
func turnedBytes(frame []byte, do func(at int, turned []byte)) {
	for at := range frame {
		for _, turn := range []byte{1, 2, 4, 8, 16, 32, 64, 128, 255} {
			turned := bytes.Clone(frame)
			turned[at] ^= turn
			do(at, turned)
		}
	}
}

func TestATrueFrameWithOneByteTurned(t *testing.T) {
	// From 3 on, 3 is the next one, 8 lies as far ahead as may be; of 0 and 1
	// keys are kept.
	for _, generation := range []int{3, 4, 8, 0, 1} {
		for _, size := range []int{0, 1, 8, 9, 40} {
			g, m := newGroup(t, mixed, 5, 1), newModel(mixed, 5, 1)
			mustAgree(t, g, m, "frame 2", frameBy(mixed, 5, 4, 2, nil))
			frame := frameBy(mixed, 5, 4, generation, ascending(size))
			turnedBytes(frame, func(at int, turned []byte) {
				what := fmt.Sprintf("frame %d of %d bytes with byte %d turned", generation, size, at)
				err := mustAgree(t, g, m, what, turned)
				if err == api.OK || at >= 3 && err != api.ErrSeal {
					t.Errorf("P12: %s, %x, is answered by %d", what, turned, err)
				}
			})
			mustUnprotect(t, g, frame, 4, generation, ascending(size))
			mustNotUnprotect(t, g, "the true one once more", frame, api.ErrConsumed)
		}
	}
}

func TestATrueFrameCutShortOrLengthened(t *testing.T) {
	for _, generation := range []int{3, 8, 0} {
		g := newGroup(t, mixed, 5, 1)
		mustUnprotect(t, g, frameBy(mixed, 5, 0, 2, nil), 0, 2, nil)
		frame := frameBy(mixed, 5, 0, generation, ascending(20))
		for size := range 60 {
			other := append(bytes.Clone(frame), make([]byte, 60)...)[:size]
			switch {
			case size < 7 || size > 47:
				mustNotUnprotect(t, g, fmt.Sprintf("a frame of %d bytes", size), other, api.ErrFrame)
			case size != len(frame):
				mustNotUnprotect(t, g, fmt.Sprintf("a frame of %d bytes", size), other, api.ErrSeal)
			}
		}
		mustUnprotect(t, g, frame, 0, generation, ascending(20))
	}
}

func TestFramesUnderAnotherHeadOrRoot(t *testing.T) {
	g := newGroup(t, mixed, 4, 0)
	frame := frameBy(mixed, 4, 1, 2, ascending(9))
	for _, head := range [][]byte{{1, 0, 0}, {1, 0, 1}, {1, 0, 3}, {1, 0, 5}, {2, 0, 2}, {3, 0, 2}} {
		mustNotUnprotect(t, g, "a frame under another head", append(head, frame[3:]...), api.ErrSeal)
	}
	mustNotUnprotect(t, g, "a frame of another root", frameBy(zero, 4, 1, 2, ascending(9)), api.ErrSeal)
	mustNotUnprotect(t, g, "a frame of another group", frameBy(mixed, 5, 1, 2, ascending(9)), api.ErrSeal)
	mustUnprotect(t, g, frame, 1, 2, ascending(9))
}

func TestFramesBelowTheNextOfWhichNoKeyIsKept(t *testing.T) {
	g := newGroup(t, mixed, 3, 0)
	for _, generation := range []int{5, 11} {
		mustUnprotect(t, g, frameBy(mixed, 3, 1, generation, nil), 1, generation, nil)
	}
	// Kept are 7 to 10; 12 is the next one.
	for _, generation := range []int{0, 4, 5, 6, 11} {
		frame := frameBy(mixed, 3, 1, generation, ascending(4))
		what := fmt.Sprintf("frame %d, of which no key is kept,", generation)
		mustNotUnprotect(t, g, what, frame, api.ErrConsumed)
		// A seal that does not fit is named behind it.
		mustNotUnprotect(t, g, what, frame[:7], api.ErrConsumed)
	}
	// Those of another member are its own: there 0 is the next one.
	mustNotUnprotect(t, g, "another member's frame", frameBy(mixed, 3, 2, 7, nil), api.ErrFar)
	mustUnprotect(t, g, frameBy(mixed, 3, 2, 0, nil), 2, 0, nil)
	mustUnprotect(t, g, frameBy(mixed, 3, 1, 7, nil), 1, 7, nil)
}

func TestAKeyThatIsKeptIsUsedOnce(t *testing.T) {
	eachPair(func(members, own, member int) {
		g := newGroup(t, mixed, members, own)
		mustUnprotect(t, g, frameBy(mixed, members, member, 4, nil), member, 4, nil)
		for _, generation := range []int{2, 0, 3, 1} {
			frame := frameBy(mixed, members, member, generation, ascending(12))
			turned := bytes.Clone(frame)
			turned[5] ^= 16
			for range 2 {
				mustNotUnprotect(t, g, "a frame of a kept key, with a byte turned,", turned, api.ErrSeal)
			}
			mustUnprotect(t, g, frame, member, generation, ascending(12))
			mustNotUnprotect(t, g, "a frame of a used key", frame, api.ErrConsumed)
			mustNotUnprotect(t, g, "a turned frame of a used key", turned, api.ErrConsumed)
		}
	})
}

// generationsKept are those of a member's keys, in the order of Dump.
func generationsKept(g *epoch.Group, member int) string {
	var words []string
	for _, x := range g.Dump() {
		if x.Kind == api.Kept && x.From == member {
			words = append(words, fmt.Sprint(x.Generation))
		}
	}
	return strings.Join(words, " ")
}

func TestNoMoreThanFourKeysOfAMemberAreKept(t *testing.T) {
	for _, c := range []struct {
		opened string
		kept   string
	}{
		{"4", "0 1 2 3"},
		{"5", "1 2 3 4"},
		{"4 6", "1 2 3 5"},
		{"4 2 6", "0 1 3 5"},
		{"4 5 6 7", "0 1 2 3"},
		{"1 3 5 7", "0 2 4 6"},
		{"1 3 5 7 9", "2 4 6 8"},
		{"5 11", "7 8 9 10"},
		{"4 10", "6 7 8 9"},
		{"4 3 0 8", "2 5 6 7"},
		{"4 0 1 2 3 9", "5 6 7 8"},
	} {
		g := newGroup(t, mixed, 4, 3)
		for _, member := range []int{0, 2} {
			for _, word := range strings.Fields(c.opened) {
				generation, _ := strconv.Atoi(word)
				mustUnprotect(t, g, frameBy(mixed, 4, member, generation, nil), member, generation, nil)
			}
			if kept := generationsKept(g, member); kept != c.kept {
				t.Errorf("P11: behind %s of member %d the keys of %s are kept, not of %s", c.opened, member, kept, c.kept)
			}
		}
		if kept := generationsKept(g, 0); kept != c.kept {
			t.Errorf("P11: with another member's the keys of %s are kept, not of %s", kept, c.kept)
		}
	}
}

// All members' keys stand side by side: 4 are each member's, not all members'.
func TestFourKeysOfEveryMemberAreKept(t *testing.T) {
	for members := 2; members <= 16; members++ {
		g, m := newGroup(t, mixed, members, 0), newModel(mixed, members, 0)
		for i := range members - 1 {
			member := members - 1 - i
			mustAgree(t, g, m, "frame 5", frameBy(mixed, members, member, 5, nil))
		}
		for _, generation := range []int{3, 1, 4, 2} {
			for member := 1; member < members; member++ {
				mustUnprotect(t, g, frameBy(mixed, members, member, generation, textOf(member)), member, generation, textOf(member))
			}
		}
	}
}

// A Group that reads up to the last generation, by every sixth frame and at last
// from where the last one lies six and then five ahead.
func TestUnprotectUpToTheLastGenerationAndBehind(t *testing.T) {
	sender, g := newGroup(t, mixed, 3, 1), newGroup(t, mixed, 3, 2)
	var frames [][]byte
	for range api.Last + 1 {
		frames = append(frames, mustProtect(t, sender, []byte("text")))
	}
	open := func(generation int) {
		mustUnprotect(t, g, frames[generation], 1, generation, []byte("text"))
	}
	for generation := 4; generation <= 65528; generation += 6 {
		open(generation)
	}
	mustNotUnprotect(t, g, "the last frame, six ahead,", frames[65535], api.ErrFar)
	open(65529)
	turned := bytes.Clone(frames[65535])
	turned[4] ^= 1
	mustNotUnprotect(t, g, "the last frame, turned,", turned, api.ErrSeal)
	open(65535)
	want := "N0-1 N2-3 K1.65531 K1.65532 K1.65533 K1.65534"
	if kept := withoutSecrets(g); kept != want {
		t.Errorf("P13: behind the last generation %s is kept, not %s", kept, want)
	}
	for _, generation := range []int{0, 65528, 65529, 65530, 65535} {
		mustNotUnprotect(t, g, "a frame behind the last one", frames[generation], api.ErrConsumed)
	}
	for _, generation := range []int{65534, 65531, 65533, 65532} {
		open(generation)
		mustNotUnprotect(t, g, "the frame once more", frames[generation], api.ErrConsumed)
	}
	if kept := withoutSecrets(g); kept != "N0-1 N2-3" {
		t.Errorf("P13: at last %s is kept", kept)
	}
}

func withoutSecrets(g *epoch.Group) string {
	var words []string
	for _, word := range strings.Fields(inShort(g.Dump())) {
		words = append(words, word[:strings.Index(word, ":")])
	}
	return strings.Join(words, " ")
}
