// Package record: what is kept of a machine, as one text.
package record

import (
	"strconv"
	"strings"

	"haven/api"
)

const (
	archiveWord = "archive"
	fileWord    = "file"
	itemWord    = "item"
)

// Record is a machine ahead of its transaction, and the items of that transaction, if one is under way.
type Record struct {
	Archives []string
	Files    []api.File
	Items    []string
}

// Encode writes each part as a line that ends with the number of the bytes behind it, and those bytes.
func (r Record) Encode() string {
	var text strings.Builder
	for _, archive := range r.Archives {
		writePart(&text, archiveWord, archive)
	}
	for _, file := range r.Files {
		writePart(&text, fileWord+" "+file.Path, file.Content)
	}
	for _, item := range r.Items {
		writePart(&text, itemWord, item)
	}
	return text.String()
}

func writePart(text *strings.Builder, words, content string) {
	text.WriteString(words + " " + strconv.Itoa(len(content)) + "\n" + content)
}

// Decode reads what Encode has written; false, if it can't be.
func Decode(text string) (Record, bool) {
	var r Record
	for text != "" {
		line, rest, ended := strings.Cut(text, "\n")
		words := strings.Split(line, " ")
		last := len(words) - 1
		size, err := strconv.Atoi(words[last])
		if !ended || err != nil || size < 0 || size > len(rest) || !r.take(words[:last], rest[:size]) {
			return Record{}, false
		}
		text = rest[size:]
	}
	return r, true
}

func (r *Record) take(words []string, content string) bool {
	switch {
	case len(words) == 2 && words[0] == fileWord:
		r.Files = append(r.Files, api.File{Path: words[1], Content: content})
	case len(words) == 1 && words[0] == archiveWord:
		r.Archives = append(r.Archives, content)
	case len(words) == 1 && words[0] == itemWord:
		r.Items = append(r.Items, content)
	default:
		return false
	}
	return true
}
