// Package version: which texts are versions, and which of two is above.
package version

import (
	"cmp"
	"strings"

	"haven/api"
	"haven/words"
)

const (
	maxEpochDigits  = 4
	defaultRevision = "0"
)

// Version is a version in its parts.
type Version struct {
	epoch, main, revision string
}

// Parse takes a text apart; false, if it is no version.
func Parse(text string) (Version, bool) {
	if len(text) < 1 || len(text) > api.MaxVersion {
		return Version{}, false
	}
	v := Version{epoch: "0", main: text, revision: defaultRevision}
	if before, after, found := strings.Cut(v.main, ":"); found {
		v.epoch, v.main = before, after
	}
	if at := strings.LastIndexByte(v.main, '-'); at >= 0 {
		v.main, v.revision = v.main[:at], v.main[at+1:]
	}
	if !isEpoch(v.epoch) || !isMain(v.main) || !isRevision(v.revision) {
		return Version{}, false
	}
	return v, true
}

// Compare gives -1, 0 or 1: a is below b, the same in rank, above.
func Compare(a, b Version) int {
	return cmp.Or(
		compareNumbers(a.epoch, b.epoch),
		compareParts(a.main, b.main),
		compareParts(a.revision, b.revision),
	)
}

func isEpoch(s string) bool {
	return 1 <= len(s) && len(s) <= maxEpochDigits && words.All(s, isDigit)
}

func isMain(s string) bool { return s != "" && isDigit(s[0]) && words.All(s, isMainSign) }

func isRevision(s string) bool { return s != "" && words.All(s, isRevisionSign) }

func isDigit(b byte) bool { return '0' <= b && b <= '9' }

func isNoDigit(b byte) bool { return !isDigit(b) }

func isLetter(b byte) bool { return 'a' <= b && b <= 'z' || 'A' <= b && b <= 'Z' }

func isRevisionSign(b byte) bool {
	return isDigit(b) || isLetter(b) || b == '.' || b == '+' || b == '~'
}

func isMainSign(b byte) bool { return isRevisionSign(b) || b == '-' }

func compareParts(a, b string) int {
	for a != "" || b != "" {
		var rowA, rowB string
		rowA, a = cutRow(a, isNoDigit)
		rowB, b = cutRow(b, isNoDigit)
		if c := compareSigns(rowA, rowB); c != 0 {
			return c
		}
		rowA, a = cutRow(a, isDigit)
		rowB, b = cutRow(b, isDigit)
		if c := compareNumbers(rowA, rowB); c != 0 {
			return c
		}
	}
	return 0
}

func cutRow(s string, belongs func(byte) bool) (row, rest string) {
	n := 0
	for n < len(s) && belongs(s[n]) {
		n++
	}
	return s[:n], s[n:]
}

// compareNumbers works on the digits themselves: they may be too many for any integer.
func compareNumbers(a, b string) int {
	a, b = strings.TrimLeft(a, "0"), strings.TrimLeft(b, "0")
	return cmp.Or(cmp.Compare(len(a), len(b)), cmp.Compare(a, b))
}

func compareSigns(a, b string) int {
	for i := range max(len(a), len(b)) {
		if c := cmp.Compare(rank(a, i), rank(b, i)); c != 0 {
			return c
		}
	}
	return 0
}

// rank of a row's sign, or of the row's end: ~, the end, letters, all others.
func rank(row string, i int) int {
	switch {
	case i >= len(row):
		return 0
	case row[i] == '~':
		return -1
	case isLetter(row[i]):
		return int(row[i])
	}
	return 256 + int(row[i])
}
