package plan

import (
	"slices"
	"strings"
	"testing"

	"haven/api"
	"haven/archives"
	"haven/machine"
	"haven/record"
	"haven/wish"
)

// packages of lines "a: b c": a needs b and c.
func packages(lines ...string) map[string]machine.Package {
	made := map[string]machine.Package{}
	for _, line := range lines {
		name, rest, _ := strings.Cut(line, ":")
		p := machine.Package{Archive: archives.Archive{Name: name}}
		for _, need := range strings.Fields(rest) {
			p.Archive.Needs = append(p.Archive.Needs, archives.Need{Name: need})
		}
		made[name] = p
	}
	return made
}

func TestOrder(t *testing.T) {
	for _, c := range []struct{ lines, install, remove string }{
		{"", "", ""},
		{"c; a; b", "a b c", "a b c"},
		{"a: b; b: c; c:", "c b a", "a b c"},
		{"a: z; b: a a; c: c", "a b c", "b a c"},
		{"a: b; b: a", "a b", "a b"},
		{"a: c; b: a; c: b", "a b c", "a c b"},
		{"a: c d; b: a; c: b; d", "d a b c", "a c b d"},
		{"a; b: c; c: b", "a b c", "a b c"},
	} {
		made := packages(strings.Split(c.lines, "; ")...)
		delete(made, "")
		for free, want := range map[string]string{"install": c.install, "remove": c.remove} {
			isFree := needsNoOther
			if free == "remove" {
				isFree = noOtherNeeds
			}
			if got := order(made, isFree); strings.Join(got, " ") != want {
				t.Errorf("%s of %q: %v, want %s", free, c.lines, got, want)
			}
		}
		if len(made) != len(order(made, needsNoOther)) {
			t.Errorf("order has taken packages of %q away", c.lines)
		}
	}
}

// TestPlan: Make changes nothing, and Start and Do what they are to change.
func TestPlan(t *testing.T) {
	const waking = "haven 1\nname w\nversion 1\nwakes /a\nwoken list /var/w\n\n"
	m, _ := machine.Restore(record.Record{Archives: []string{waking, "haven 1\nname a\nversion 1\nfile /a 0 e3b0c44298fc1c14\n\n"}})
	w, _ := wish.Parse([]string{"-a", "+haven 1\nname b\nversion 1\nrun put /var/b x\n\n"})
	p := Make(m, w)
	if p.Len() != 4 || !slices.Equal(m.Names(), []string{"a", "w"}) || m.Packages["w"].Status != api.Ready {
		t.Errorf("%d steps, and the packages %v", p.Len(), m.Packages)
	}
	p.Start(m)
	for n, want := range []string{"a2 w3", "w3", "b1 w3", "b2 w3 /var/b", "b2 w2 /var/b /var/w"} {
		if n > 0 {
			p.Do(n-1, m)
		}
		if got := told(m); got != want {
			t.Errorf("behind %d steps: %q, want %q", n, got, want)
		}
	}
	if got := m.Files["/var/w"].Text; got != "/a\n" {
		t.Errorf("the paths that wake w: %q", got)
	}
}

// told tells names with statuses, and paths.
func told(m *machine.Machine) string {
	var parts []string
	for _, p := range m.List() {
		parts = append(parts, p.Name+string(rune('0'+p.Status)))
	}
	for _, f := range m.Tree() {
		if f.Path != "/a" {
			parts = append(parts, f.Path)
		}
	}
	return strings.Join(parts, " ")
}
