// Package archives: what the bytes of an archive say.
package archives

import (
	"slices"
	"strconv"
	"strings"

	"haven/api"
	"haven/digest"
	"haven/version"
	"haven/words"
)

const (
	headLines     = 3
	maxSizeDigits = 4
)

// Need is a name that is needed, and from which version on ("", if any will do).
type Need struct{ Name, Version string }

// File is a file of an archive.
type File struct{ Path, Content string }

// Archive is an archive in its parts, each kind in the order of its lines.
type Archive struct {
	Name, Version string
	Needs         []Need
	Breaks, Wakes []string
	Files         []File
	Runs, Wokens  []Command
}

// Kinds of lines, in the order in which they come.
const (
	noKind = iota
	needsLine
	breaksLine
	wakesLine
	fileLine
	runLine
	wokenLine
)

// parser holds what has been read, and the contents that no file has taken yet.
type parser struct {
	found    Archive
	contents string
}

// Parse takes an archive apart; false, if it is none. The parts share the text's memory.
func Parse(text string) (Archive, bool) {
	if len(text) > api.MaxArchive {
		return Archive{}, false
	}
	head, contents, ended := strings.Cut(text, "\n\n")
	lines := strings.Split(head, "\n")
	if !ended || len(lines) < headLines || len(lines) > api.MaxLines {
		return Archive{}, false
	}
	p := parser{contents: contents}
	if !p.head(lines[:headLines]) || !p.body(lines[headLines:]) || p.contents != "" {
		return Archive{}, false
	}
	return p.found, true
}

func (p *parser) head(lines []string) bool {
	name, hasName := strings.CutPrefix(lines[1], "name ")
	text, hasVersion := strings.CutPrefix(lines[2], "version ")
	p.found.Name, p.found.Version = name, text
	return lines[0] == "haven 1" && hasName && hasVersion && words.IsName(name) && isVersion(text)
}

func (p *parser) body(lines []string) bool {
	last := noKind
	for _, line := range lines {
		parts := strings.Split(line, " ")
		kind := kindOf(parts[0])
		if kind == noKind || kind < last || !p.line(kind, parts[1:]) {
			return false
		}
		last = kind
	}
	return true
}

func kindOf(word string) int {
	switch word {
	case "needs":
		return needsLine
	case "breaks":
		return breaksLine
	case "wakes":
		return wakesLine
	case "file":
		return fileLine
	case "run":
		return runLine
	case "woken":
		return wokenLine
	}
	return noKind
}

func (p *parser) line(kind int, rest []string) bool {
	switch kind {
	case needsLine:
		return p.needs(rest)
	case breaksLine:
		p.found.Breaks = append(p.found.Breaks, rest...)
		return len(rest) == 1 && words.IsName(rest[0])
	case wakesLine:
		p.found.Wakes = append(p.found.Wakes, rest...)
		return len(rest) == 1 && words.IsPath(rest[0])
	case fileLine:
		return p.file(rest)
	case runLine:
		c, ok := parseCommand(rest)
		p.found.Runs = append(p.found.Runs, c)
		return ok && c.Verb != List
	case wokenLine:
		c, ok := parseCommand(rest)
		p.found.Wokens = append(p.found.Wokens, c)
		return ok
	}
	return false
}

func (p *parser) needs(rest []string) bool {
	if len(rest) != 1 && len(rest) != 2 {
		return false
	}
	need := Need{Name: rest[0]}
	if len(rest) == 2 {
		need.Version = rest[1]
		if !isVersion(need.Version) {
			return false
		}
	}
	p.found.Needs = append(p.found.Needs, need)
	return words.IsName(need.Name)
}

func (p *parser) file(rest []string) bool {
	if len(rest) != 3 {
		return false
	}
	path, hash := rest[0], rest[2]
	size, ok := parseSize(rest[1])
	if !ok || size > len(p.contents) || !words.IsPath(path) || words.UnderVar(path) || p.hasFile(path) {
		return false
	}
	f := File{Path: path, Content: p.contents[:size]}
	p.contents = p.contents[size:]
	p.found.Files = append(p.found.Files, f)
	return digest.Short(f.Content) == hash
}

func (p *parser) hasFile(path string) bool {
	return slices.ContainsFunc(p.found.Files, func(f File) bool { return f.Path == path })
}

// parseSize looks for what strconv would let pass: a sign, and noughts in front.
func parseSize(s string) (int, bool) {
	if s == "" || len(s) > maxSizeDigits || strings.Trim(s, "0123456789") != "" || s[0] == '0' && s != "0" {
		return 0, false
	}
	size, err := strconv.Atoi(s)
	return size, err == nil
}

func isVersion(s string) bool {
	_, ok := version.Parse(s)
	return ok
}
