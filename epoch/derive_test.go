package epoch_test

import (
	"encoding/hex"
	"math"
	"testing"

	"epoch/api"
	"epoch/epoch"
)

var (
	zero  = api.Secret{}
	mixed = api.Secret{1, 2, 3, 4, 0xfc, 0xfd, 0xfe, 0xff}
)

func hexOf(s api.Secret) string { return hex.EncodeToString(s[:]) }

// The values here were worked out from the document's words, apart from the
// program; the first is one of the document's own examples.
func TestDeriveGivesTheDocumentsValues(t *testing.T) {
	for _, c := range []struct {
		secret api.Secret
		label  string
		number int
		want   string
	}{
		{zero, "key", 0, "0a126d4ae844ffad"},
		{zero, "", 0, "59cda98a5bce5d12"},
		{mixed, "key", 0, "f18c2afa2f3e69c4"},
		{mixed, "key", 1, "7ae9a9f86d2eb477"},
		{mixed, "next", 0x01020304, "1b6d7d2a271bd9f4"},
		{mixed, "next", 1 << 31, "779436ed9627d9bb"},
		{mixed, "next", 1<<32 - 1, "7e395d4850231fdf"},
		{mixed, "\xc3\xa9\xff\x00", 7, "f302714cf5d64ee6"},
		{mixed, "a label that is longer than a secret is", 258, "257710d0e7d7730c"},
	} {
		if got := hexOf(epoch.Derive(c.secret, c.label, c.number)); got != c.want {
			t.Errorf("P3: Derive(%x, %q, %d) = %s, not %s", c.secret, c.label, c.number, got, c.want)
		}
	}
}

func TestDeriveTakesTheNumberModulo32Bits(t *testing.T) {
	for _, c := range []struct{ number, same int }{
		{-1, 1<<32 - 1},
		{-2, 1<<32 - 2},
		{-1 << 31, 1 << 31},
		{-1 << 32, 0},
		{1 << 32, 0},
		{1<<32 + 258, 258},
		{-1<<32 - 1, 1<<32 - 1},
		{math.MaxInt64, 1<<32 - 1},
		{math.MinInt64, 0},
		{math.MinInt64 + 5, 5},
	} {
		got, want := epoch.Derive(mixed, "key", c.number), epoch.Derive(mixed, "key", c.same)
		if got != want {
			t.Errorf("P3: Derive of %d = %x, but of %d = %x", c.number, got, c.same, want)
		}
	}
}

func TestDeriveTellsNumbersBelow32BitsApart(t *testing.T) {
	seen := map[api.Secret]int{}
	for _, number := range []int{0, 1, 2, 255, 256, 65535, 65536, 1 << 24, 1<<31 - 1, 1 << 31, 1<<32 - 1} {
		s := epoch.Derive(mixed, "key", number)
		if other, ok := seen[s]; ok {
			t.Errorf("P3: Derive of %d and of %d are both %x", number, other, s)
		}
		seen[s] = number
	}
}

func TestDeriveLooksAtEachByteOfTheSecret(t *testing.T) {
	plain := epoch.Derive(mixed, "key", 0)
	for i := range mixed {
		for bit := range 8 {
			other := mixed
			other[i] ^= 1 << bit
			if epoch.Derive(other, "key", 0) == plain {
				t.Errorf("P3: bit %d of the secret's byte %d makes no difference", bit, i)
			}
		}
	}
}

func TestDeriveLooksAtEachByteOfTheLabel(t *testing.T) {
	plain := epoch.Derive(mixed, "ratchet", 0)
	for _, label := range []string{"", "r", "ratche", "ratchet\x00", "ratchets", "Ratchet", "ratchEt", "\xff", "\xfe", "\xef\xbf\xbd"} {
		if epoch.Derive(mixed, label, 0) == plain {
			t.Errorf("P3: Derive with the label %q is as with ratchet", label)
		}
	}
	if epoch.Derive(mixed, "\xff", 0) == epoch.Derive(mixed, "\xfe", 0) {
		t.Error("P3: bytes that are no text in UTF-8 are not told apart")
	}
}
