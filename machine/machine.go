// Package machine: the packages that there are, and the files.
package machine

import (
	"maps"
	"slices"

	"haven/api"
	"haven/archives"
	"haven/record"
	"haven/words"
)

// Package is a package as it is there.
type Package struct {
	Text    string // its archive, to the letter
	Archive archives.Archive
	Status  int
}

// Content is what a file holds.
type Content struct{ Text string }

// Machine has its packages by their names, and the files under /var/ by their paths.
type Machine struct {
	Packages map[string]Package
	Files    map[string]Content
}

// New gives a machine without packages and files.
func New() *Machine {
	return &Machine{Packages: map[string]Package{}, Files: map[string]Content{}}
}

// Restore gives the machine of a record, each package READY as it is when no transaction is under way; false, if it can't be one.
func Restore(r record.Record) (*Machine, bool) {
	m := New()
	for _, text := range r.Archives {
		archive, ok := archives.Parse(text)
		if _, twice := m.Packages[archive.Name]; !ok || twice {
			return nil, false
		}
		m.Packages[archive.Name] = Package{Text: text, Archive: archive, Status: api.Ready}
	}
	for _, file := range r.Files {
		if _, twice := m.Files[file.Path]; !words.IsVarPath(file.Path) || twice {
			return nil, false
		}
		m.Files[file.Path] = Content{file.Content}
	}
	return m, true
}

// Record gives what is to be kept of a machine when no transaction is under way.
func (m *Machine) Record() record.Record {
	var r record.Record
	for _, name := range m.Names() {
		r.Archives = append(r.Archives, m.Packages[name].Text)
	}
	for _, path := range slices.Sorted(maps.Keys(m.Files)) {
		r.Files = append(r.Files, api.File{Path: path, Content: m.Files[path].Text})
	}
	return r
}

// Clone gives a machine that changes on its own.
func (m *Machine) Clone() *Machine {
	return &Machine{Packages: maps.Clone(m.Packages), Files: maps.Clone(m.Files)}
}

// Names of the packages, in their order.
func (m *Machine) Names() []string { return slices.Sorted(maps.Keys(m.Packages)) }

// SetStatus gives a package that is there another status.
func (m *Machine) SetStatus(name string, status int) {
	p := m.Packages[name]
	p.Status = status
	m.Packages[name] = p
}

// VarUse tells how many files there are under /var/, and how long the longest is.
func (m *Machine) VarUse() (count, longest int) {
	for _, content := range m.Files {
		longest = max(longest, len(content.Text))
	}
	return len(m.Files), longest
}
