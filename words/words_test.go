package words

import (
	"strings"
	"testing"
)

// check asks about single signs, too: which of all bytes may stand behind a start.
func check(t *testing.T, what string, is func(string) bool, good, bad []string, start, signs string) {
	t.Helper()
	for _, s := range good {
		if !is(s) {
			t.Errorf("%q is a %s", s, what)
		}
	}
	for _, s := range bad {
		if is(s) {
			t.Errorf("%q is no %s", s, what)
		}
	}
	for b := range 256 {
		s := string([]byte{byte(b)})
		if is(start+s) != strings.Contains(signs, s) {
			t.Errorf("%q: a %s: %t", start+s, what, is(start+s))
		}
	}
}

const (
	small  = "abcdefghijklmnopqrstuvwxyz"
	digits = "0123456789"
)

func TestIsName(t *testing.T) {
	good := []string{"a", "z9-", "a--", "abcdefghijkl"}
	bad := []string{"", "9a", "-a", "A", "aB", "abcdefghijklm", "a\u00e4"}
	check(t, "name", IsName, good, bad, "a", small+digits+"-")
	check(t, "name", IsName, nil, nil, "", small)
}

func TestIsPath(t *testing.T) {
	long := "/" + strings.Repeat("p", 23)
	good := []string{"/a", "/.", "/..", "/a/b", "/-.0/z", "/var", long}
	bad := []string{"", "/", "//", "a", "a/b", "/a/", "//a", "/a//b", "/a b", "/A", long + "p", "/\u00e4"}
	check(t, "path", IsPath, good, bad, "/a", small+digits+"-.")
	check(t, "path", IsPath, nil, nil, "/", small+digits+"-.")
}

func TestIsVarPath(t *testing.T) {
	good := []string{"/var/a", "/var/a/b", "/var/.."}
	bad := []string{"", "/var", "/var/", "/var//a", "/varx/a", "/a/var/b", "var/a", "/bin/a", "/var/A", "/var/" + strings.Repeat("p", 20)}
	check(t, "path under /var/", IsVarPath, good, bad, "/var/", small+digits+"-.")
}

func TestIsWord(t *testing.T) {
	signs := ""
	for b := 33; b <= 126; b++ {
		signs += string([]byte{byte(b)})
	}
	good := []string{"a", "!", "~", "1/2:\"", strings.Repeat("w", 16)}
	bad := []string{"", " ", "a b", "\n", strings.Repeat("w", 17)}
	check(t, "word", IsWord, good, bad, "", signs)
	check(t, "word", IsWord, nil, nil, "w", signs)
}
