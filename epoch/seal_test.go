package epoch_test

import (
	"bytes"
	"encoding/hex"
	"strings"
	"testing"

	"epoch/api"
	"epoch/epoch"
)

// ascending is a text of n bytes, no two neighbours of which are the same.
func ascending(n int) []byte {
	text := make([]byte, n)
	for i := range text {
		text[i] = byte(i)
	}
	return text
}

// mustNotOpen holds P4's false and, with it, P1's empty result.
func mustNotOpen(t *testing.T, what string, key api.Secret, head, sealed []byte) {
	t.Helper()
	if text, ok := epoch.Open(key, head, sealed); ok || len(text) != 0 {
		t.Errorf("P1, P4: Open of %s = %x, %v", what, text, ok)
	}
}

// The values here were worked out from the document's words, apart from the
// program; the first is one of the document's own examples. Of some the sum's
// highest bit is set, of others not.
var sealedValues = []struct {
	key        api.Secret
	head, text string
	want       string
}{
	{zero, "head", "a text of nine", "ec29c2fb9823ed87497aead42bbeae074c27"},
	{zero, "", "", "c31a0a68"},
	{mixed, "", "", "dbbafc09"},
	{mixed, "h", "", "a5af111d"},
	{mixed, "", "h", "6c5a3308b8"},
	{mixed, "\x02\x01\x02", "12345678", "35ee1483db49686ace52cc79"},
	{mixed, "\x02\x01\x02", "123456789", "35ee1483db49686a39070d1ada"},
	{mixed, "\x00", strings.Repeat("\x00", 17), "04dc27b7ee7f5f52005a09b1002984ff05abeedf0d"},
	{mixed, "\xff\x00", string(ascending(40)), "04dd25b4ea7a5955085303ba0c248af0159e3a23da79fcabfba673a4ca7736e6008845cc3cf38031f6d0b5d3"},
}

func TestSealGivesTheDocumentsValues(t *testing.T) {
	for _, c := range sealedValues {
		if got := hex.EncodeToString(epoch.Seal(c.key, []byte(c.head), []byte(c.text))); got != c.want {
			t.Errorf("P4: Seal(%x, %q, %q) = %s, not %s", c.key, c.head, c.text, got, c.want)
		}
	}
}

func TestOpenGivesTheTextOfTheDocumentsValues(t *testing.T) {
	for _, c := range sealedValues {
		sealed, err := hex.DecodeString(c.want)
		if err != nil {
			t.Fatal(err)
		}
		text, ok := epoch.Open(c.key, []byte(c.head), sealed)
		if !ok || string(text) != c.text {
			t.Errorf("P4: Open(%x, %q, %s) = %q, %v", c.key, c.head, c.want, text, ok)
		}
	}
}

func TestOpenUndoesSealAtEveryLength(t *testing.T) {
	for n := range 70 {
		for _, head := range [][]byte{nil, {0}, {2, 1, 2}, ascending(300)} {
			text := ascending(n)
			sealed := epoch.Seal(mixed, head, text)
			if len(sealed) != n+4 {
				t.Errorf("P4: %d bytes sealed are %d", n, len(sealed))
			}
			got, ok := epoch.Open(mixed, head, sealed)
			if !ok || !bytes.Equal(got, text) {
				t.Errorf("P4: Open of %x sealed = %x, %v", text, got, ok)
			}
		}
	}
}

func TestATextOfNoBytesIsAText(t *testing.T) {
	for _, text := range [][]byte{nil, {}} {
		sealed := epoch.Seal(zero, nil, text)
		if hex.EncodeToString(sealed) != "c31a0a68" {
			t.Errorf("P4: no bytes sealed are %x", sealed)
		}
		if got, ok := epoch.Open(zero, nil, sealed); !ok || len(got) != 0 {
			t.Errorf("P4: Open of no bytes sealed = %x, %v", got, ok)
		}
	}
}

func TestSealedBytesTooShortDoNotOpen(t *testing.T) {
	mustNotOpen(t, "nil", mixed, nil, nil)
	for n := range 4 {
		mustNotOpen(t, "bytes too few to be a tag", mixed, nil, make([]byte, n))
		mustNotOpen(t, "the beginning of a tag", mixed, nil, epoch.Seal(mixed, nil, nil)[:n])
	}
}

func TestSealedBytesCutOrGrownDoNotOpen(t *testing.T) {
	head := []byte{2, 1, 2}
	for _, n := range []int{0, 1, 7, 8, 9, 40} {
		sealed := epoch.Seal(mixed, head, ascending(n))
		for cut := range len(sealed) {
			mustNotOpen(t, "the first ones", mixed, head, sealed[:cut])
			mustNotOpen(t, "the last ones", mixed, head, sealed[cut+1:])
		}
		mustNotOpen(t, "one more", mixed, head, append(bytes.Clone(sealed), 0))
		mustNotOpen(t, "one more ahead", mixed, head, append([]byte{0}, sealed...))
	}
}

func TestChangedBytesDoNotOpen(t *testing.T) {
	head := []byte{2, 1, 2}
	for _, n := range []int{0, 1, 8, 9, 40} {
		sealed := epoch.Seal(mixed, head, ascending(n))
		for i := range sealed {
			for bit := range 8 {
				changed := bytes.Clone(sealed)
				changed[i] ^= 1 << bit
				mustNotOpen(t, "a bit turned", mixed, head, changed)
			}
		}
	}
}

func TestAnotherKeyDoesNotOpen(t *testing.T) {
	head := []byte{2, 1, 2}
	for _, n := range []int{0, 1, 40} {
		sealed := epoch.Seal(mixed, head, ascending(n))
		for i := range mixed {
			other := mixed
			other[i] ^= 1
			mustNotOpen(t, "another key", other, head, sealed)
		}
	}
}

func TestAnotherHeadDoesNotOpen(t *testing.T) {
	head := []byte{2, 1, 2}
	for _, n := range []int{0, 1, 40} {
		sealed := epoch.Seal(mixed, head, ascending(n))
		for _, other := range [][]byte{nil, {2}, {2, 1}, {2, 1, 3}, {3, 1, 2}, {2, 0, 2}, {1, 2}, {2, 1, 2, 0}, {0, 2, 1, 2}} {
			mustNotOpen(t, "another head", mixed, other, sealed)
		}
	}
}

// Without the byte 0 between them, head and text could change hands.
func TestTheHeadEndsWhereItEnds(t *testing.T) {
	sealed := epoch.Seal(mixed, nil, []byte("ab"))
	mustNotOpen(t, "what moved into the head", mixed, sealed[:1], sealed[1:])
	mustNotOpen(t, "what moved out of the head", mixed, nil, append([]byte{7}, epoch.Seal(mixed, []byte{7}, []byte("ab"))...))
}
