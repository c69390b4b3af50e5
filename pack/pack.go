// Package pack: versions and archives: see DOC.md, P3.
package pack

import (
	"strings"

	"haven/api"
	"haven/archives"
	"haven/version"
)

// Compare compares two versions: -1, 0 or 1, if a is below b, the same in rank, above.
func Compare(a string, b string) (int, api.Errno) {
	va, okA := version.Parse(a)
	vb, okB := version.Parse(b)
	if !okA || !okB {
		return 0, api.ErrVersion
	}
	return version.Compare(va, vb), api.OK
}

// Inspect looks into an archive: its name and version, how many lines of each kind, its files' paths.
func Inspect(archive string) (api.Info, api.Errno) {
	a, ok := archives.Parse(archive)
	if !ok {
		return api.Info{}, api.ErrArchive
	}
	return api.Info{
		Name:    strings.Clone(a.Name),
		Version: strings.Clone(a.Version),
		Needs:   len(a.Needs),
		Breaks:  len(a.Breaks),
		Wakes:   len(a.Wakes),
		Files:   len(a.Files),
		Runs:    len(a.Runs),
		Wokens:  len(a.Wokens),
		Paths:   pathsOf(a.Files),
	}, api.OK
}

// pathsOf clones, so that an answer does not keep the whole archive.
func pathsOf(files []archives.File) []string {
	var paths []string
	for _, f := range files {
		paths = append(paths, strings.Clone(f.Path))
	}
	return paths
}
