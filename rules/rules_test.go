package rules

import (
	"reflect"
	"strings"
	"testing"

	"haven/api"
	"haven/machine"
	"haven/record"
)

func item(name, version, lines string) string {
	return "+haven 1\nname " + name + "\nversion " + version + "\n" + lines + "\n"
}

// TestCheck: a machine stays as it is, whatever the answer; beside a refusal there is no plan.
func TestCheck(t *testing.T) {
	m, _ := machine.Restore(record.Record{Archives: []string{item("a", "1", "needs b\n")[1:], item("b", "1", "")[1:]}})
	before := m.Clone()
	for _, c := range []struct {
		want  api.Errno
		items []string
	}{
		{api.ErrItem, nil}, {api.ErrTwice, []string{"-a", "-a"}}, {api.ErrAbsent, []string{"-q"}}, {api.ErrOld, []string{item("a", "1", "")}}, {api.ErrNeeds, []string{"-b"}},
		{api.ErrBreaks, []string{item("q", "1", "breaks a\n")}}, {api.ErrVar, []string{item("q", "1", "file /q 201 "+"84a0678c90937f5d"+"\nrun copy /q /var/q\n") + strings.Repeat("x", 201)}},
		{api.OK, []string{"-a"}}, {api.OK, []string{item("q", "1", "run put /var/q x\n")}}, {api.OK, []string{item("b", "1.1", "")}},
	} {
		p, e := Check(m, c.items, 1300)
		if e != c.want || (p.Len() > 0) != (c.want == api.OK) {
			t.Errorf("Check(%.60q) = %d steps, %d, want %d", c.items, p.Len(), e, c.want)
		}
		if !reflect.DeepEqual(m, before) {
			t.Fatalf("Check(%.60q) has changed the machine", c.items)
		}
	}
}
