// Package wish: what the items of a transaction ask for.
package wish

import (
	"maps"
	"strings"

	"haven/api"
	"haven/archives"
	"haven/machine"
	"haven/words"
)

const (
	removeSign  = "-"
	installSign = "+"
)

// Wish is which names are to be removed, and which packages are to be installed, by their names.
type Wish struct {
	Remove  map[string]struct{}
	Install map[string]machine.Package
}

// Parse takes items apart; the wish shares no memory with them. What is no item is told ahead of what is asked for twice.
func Parse(items []string) (Wish, api.Errno) {
	if len(items) == 0 || len(items) > api.MaxItems {
		return Wish{}, api.ErrItem
	}
	w := Wish{Remove: map[string]struct{}{}, Install: map[string]machine.Package{}}
	names := map[string]struct{}{}
	for _, item := range items {
		name, ok := w.take(item)
		if !ok {
			return Wish{}, api.ErrItem
		}
		names[name] = struct{}{}
	}
	if len(names) < len(items) {
		return Wish{}, api.ErrTwice
	}
	return w, api.OK
}

func (w Wish) take(item string) (name string, ok bool) {
	if name, found := strings.CutPrefix(item, removeSign); found {
		return w.takeRemove(name)
	}
	if text, found := strings.CutPrefix(item, installSign); found {
		return w.takeInstall(text)
	}
	return "", false
}

func (w Wish) takeRemove(name string) (string, bool) {
	if !words.IsName(name) {
		return "", false
	}
	name = strings.Clone(name)
	w.Remove[name] = struct{}{}
	return name, true
}

func (w Wish) takeInstall(text string) (string, bool) {
	// Ahead of the clone: a text may be of any length.
	if len(text) > api.MaxArchive {
		return "", false
	}
	text = strings.Clone(text)
	archive, ok := archives.Parse(text)
	if !ok {
		return "", false
	}
	w.Install[archive.Name] = machine.Package{Text: text, Archive: archive, Status: api.Unpacked}
	return archive.Name, true
}

// ToBe gives the packages that are to be, of those that there are.
func (w Wish) ToBe(there map[string]machine.Package) map[string]machine.Package {
	toBe := maps.Clone(there)
	for name := range w.Remove {
		delete(toBe, name)
	}
	maps.Copy(toBe, w.Install)
	return toBe
}
