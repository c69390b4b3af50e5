package machine

import (
	"reflect"
	"testing"

	"haven/api"
	"haven/archives"
	"haven/record"
)

const (
	tea = "haven 1\nname tea\nversion 1.0\nfile /bin/tea 5 ba4788b226aa8dc2\n\ngreen"
	cup = "haven 1\nname cup\nversion 2\n\n"
)

func restored(t *testing.T, r record.Record) *Machine {
	t.Helper()
	m, ok := Restore(r)
	if !ok {
		t.Fatalf("%+v is no machine", r)
	}
	return m
}

func TestRestore(t *testing.T) {
	r := record.Record{Archives: []string{cup, tea}, Files: []api.File{{Path: "/var/a", Content: "x"}, {Path: "/var/b"}}}
	m := restored(t, r)
	if got := m.Record(); !reflect.DeepEqual(got, r) {
		t.Errorf("the record has become %+v", got)
	}
	if want := []api.Package{{Name: "cup", Version: "2", Status: api.Ready}, {Name: "tea", Version: "1.0", Status: api.Ready}}; !reflect.DeepEqual(m.List(), want) {
		t.Errorf("the packages are %v", m.List())
	}
	if want := []api.File{{Path: "/bin/tea", Content: "green"}, {Path: "/var/a", Content: "x"}, {Path: "/var/b"}}; !reflect.DeepEqual(m.Tree(), want) {
		t.Errorf("the tree is %v", m.Tree())
	}
	file := api.File{Path: "/var/a"}
	for _, r := range []record.Record{
		{Archives: []string{""}}, {Archives: []string{tea + "x"}}, {Archives: []string{cup, tea, cup}},
		{Files: []api.File{file, file}}, {Files: []api.File{{Path: "/bin/a"}}}, {Files: []api.File{{}}},
	} {
		if m, ok := Restore(r); ok || m != nil {
			t.Errorf("%+v is a machine", r)
		}
	}
}

func TestClone(t *testing.T) {
	m := restored(t, record.Record{Archives: []string{cup, tea}, Files: []api.File{{Path: "/var/a", Content: "x"}}})
	before := m.Record()
	clone := m.Clone()
	clone.Run([]archives.Command{{Verb: archives.Drop, Path: "/var/a"}, {Verb: archives.Put, Path: "/var/b", Word: "y"}}, nil)
	clone.SetStatus("tea", api.Woken)
	delete(clone.Packages, "cup")
	if !reflect.DeepEqual(m.Record(), before) || m.Packages["tea"].Status != api.Ready {
		t.Errorf("the clone has changed the machine to %+v", m)
	}
}

func TestVarUse(t *testing.T) {
	m := New()
	if count, longest := m.VarUse(); count != 0 || longest != 0 {
		t.Errorf("VarUse() = %d, %d", count, longest)
	}
	m.Run([]archives.Command{{Verb: archives.Put, Path: "/var/a", Word: "abc"}, {Verb: archives.Put, Path: "/var/b", Word: "a"}}, nil)
	if count, longest := m.VarUse(); count != 2 || longest != 3 {
		t.Errorf("VarUse() = %d, %d", count, longest)
	}
}

// TestFindOfTwo: of one path that two packages have, the later name's file is copied, as it is the one in the tree.
func TestFindOfTwo(t *testing.T) {
	m := New()
	for _, name := range []string{"a", "b"} {
		m.Packages[name] = Package{Archive: archives.Archive{Name: name, Files: []archives.File{{Path: "/x", Content: name}}}}
	}
	m.Run([]archives.Command{{Verb: archives.Copy, From: "/x", Path: "/var/x"}}, nil)
	if want := []api.File{{Path: "/var/x", Content: "b"}, {Path: "/x", Content: "b"}}; !reflect.DeepEqual(m.Tree(), want) {
		t.Errorf("the tree is %v", m.Tree())
	}
}
