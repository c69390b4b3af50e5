package digest

import (
	"crypto/sha256"
	"encoding/hex"
	"strings"
	"testing"
)

// TestKnown: the examples of the standard, and the document's.
func TestKnown(t *testing.T) {
	for text, want := range map[string]string{
		"":    "e3b0c44298fc1c149afbf4c8996fb92427ae41e4649b934ca495991b7852b855",
		"abc": "ba7816bf8f01cfea414140de5dae2223b00361a396177a9cb410ff61f20015ad",
		"abcdbcdecdefdefgefghfghighijhijkijkljklmklmnlmnomnopnopq": "248d6a61d20638b8e5c026930c3e6039a33ce45964ff2167f6ecedd419db06c1",
	} {
		sum := Sum(text)
		if got := hex.EncodeToString(sum[:]); got != want {
			t.Errorf("Sum(%q) = %s, want %s", text, got, want)
		}
	}
	if got := Short("green"); got != "ba4788b226aa8dc2" {
		t.Errorf("Short(green) = %s", got)
	}
}

// TestLengths passes every place where the padding may fall, several times.
func TestLengths(t *testing.T) {
	for n := range 2001 {
		text := strings.Repeat("\x00\xff\x80a\n", n)[:n]
		want := sha256.Sum256([]byte(text))
		if Sum(text) != want {
			t.Errorf("Sum of %d bytes", n)
		}
		if got := Short(text); got != hex.EncodeToString(want[:8]) {
			t.Errorf("Short of %d bytes = %s", n, got)
		}
	}
}
