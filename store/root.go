package store

import (
	"strconv"
	"strings"

	"haven/digest"
)

const (
	magic     = "haven store 1"
	rootParts = 4
)

// root tells which half of the disk holds the text, how long it is, its hash, and the mark.
type root struct {
	half, length, mark int
	hash               string
}

func rootOf(half int, text string) root {
	return root{half: half, length: len(text), hash: digest.Short(text)}
}

func (r root) encode() string {
	return magic + "\n" + strings.Join([]string{
		strconv.Itoa(r.half), strconv.Itoa(r.length), strconv.Itoa(r.mark), r.hash,
	}, " ") + "\n"
}

// decodeRoot takes only what encode would write again to the letter: so a sector of other origin is no root.
func decodeRoot(sector string) (root, bool) {
	text := strings.TrimRight(sector, "\x00")
	line, found := strings.CutPrefix(text, magic+"\n")
	parts := strings.Split(strings.TrimSuffix(line, "\n"), " ")
	if !found || len(parts) != rootParts {
		return root{}, false
	}
	r := root{hash: parts[3]}
	for i, number := range []*int{&r.half, &r.length, &r.mark} {
		value, err := strconv.Atoi(parts[i])
		if err != nil || value < 0 {
			return root{}, false
		}
		*number = value
	}
	return r, r.half < halves && r.encode() == text
}
