package machine

import (
	"maps"
	"slices"

	"haven/api"
	"haven/archives"
	"haven/words"
)

// List tells the packages, in the order of names.
func (m *Machine) List() []api.Package {
	var list []api.Package
	for _, name := range m.Names() {
		p := m.Packages[name]
		list = append(list, api.Package{Name: name, Version: p.Archive.Version, Status: p.Status})
	}
	return list
}

// Tree tells all files, in the order of their paths.
func (m *Machine) Tree() []api.File {
	files := maps.Clone(m.Files)
	// In the order of names: of one path that two packages have, the later one's file stays.
	for _, name := range m.Names() {
		for _, f := range m.Packages[name].Archive.Files {
			files[f.Path] = Content{f.Content}
		}
	}
	var tree []api.File
	for _, path := range slices.Sorted(maps.Keys(files)) {
		tree = append(tree, api.File{Path: path, Content: files[path].Text})
	}
	return tree
}

// find gives the file of a path, as the tree has it.
func (m *Machine) find(path string) (Content, bool) {
	if words.UnderVar(path) {
		content, there := m.Files[path]
		return content, there
	}
	for _, name := range slices.Backward(m.Names()) {
		for _, f := range m.Packages[name].Archive.Files {
			if f.Path == path {
				return Content{f.Content}, true
			}
		}
	}
	return Content{}, false
}

// Run does commands; waking are the paths that a list gives.
func (m *Machine) Run(commands []archives.Command, waking []string) {
	for _, c := range commands {
		m.do(c, waking)
	}
}

func (m *Machine) do(c archives.Command, waking []string) {
	switch c.Verb {
	case archives.Put:
		m.Files[c.Path] = Content{c.Word}
	case archives.Add:
		m.Files[c.Path] = Content{m.Files[c.Path].Text + c.Word}
	case archives.Copy:
		if content, there := m.find(c.From); there {
			m.Files[c.Path] = content
		}
	case archives.Drop:
		delete(m.Files, c.Path)
	case archives.List:
		m.Files[c.Path] = Content{lines(waking)}
	}
}

func lines(paths []string) string {
	text := ""
	for _, path := range paths {
		text += path + "\n"
	}
	return text
}
