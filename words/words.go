// Package words: which texts are names, paths and words.
package words

import (
	"strings"

	"haven/api"
)

const varRoot = "/var/"

// IsName tells whether a text is a package's name.
func IsName(s string) bool {
	return inLength(s, 1, api.MaxName) && isLetter(s[0]) && All(s, isNameSign)
}

// IsPath tells whether a text is a file's path.
func IsPath(s string) bool {
	return inLength(s, 2, api.MaxPath) && s[0] == '/' && s[len(s)-1] != '/' &&
		!strings.Contains(s, "//") && All(s, isPathSign)
}

// IsVarPath tells whether a text is the path of a file that commands may change.
func IsVarPath(s string) bool { return IsPath(s) && UnderVar(s) }

// UnderVar tells whether a path is one under /var/.
func UnderVar(path string) bool { return strings.HasPrefix(path, varRoot) }

// IsWord tells whether a text is a word.
func IsWord(s string) bool { return inLength(s, 1, api.MaxWord) && All(s, isWordSign) }

func inLength(s string, least, most int) bool { return least <= len(s) && len(s) <= most }

// All tells whether every sign of a text may be there.
func All(s string, may func(byte) bool) bool {
	for _, b := range []byte(s) {
		if !may(b) {
			return false
		}
	}
	return true
}

func isLetter(b byte) bool { return 'a' <= b && b <= 'z' }

func isNameSign(b byte) bool { return isLetter(b) || '0' <= b && b <= '9' || b == '-' }

func isPathSign(b byte) bool { return isNameSign(b) || b == '.' || b == '/' }

func isWordSign(b byte) bool { return 33 <= b && b <= 126 }
