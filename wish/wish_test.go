package wish

import (
	"maps"
	"slices"
	"strings"
	"testing"

	"haven/api"
	"haven/machine"
)

func item(name string) string { return "+haven 1\nname " + name + "\nversion 1\n\n" }

func TestParse(t *testing.T) {
	w, e := Parse([]string{"-b", item("c"), "-a-", item("d")})
	if e != api.OK || !slices.Equal(slices.Sorted(maps.Keys(w.Remove)), []string{"a-", "b"}) || !slices.Equal(slices.Sorted(maps.Keys(w.Install)), []string{"c", "d"}) {
		t.Errorf("Parse: %v, %d", w, e)
	}
	if p := w.Install["c"]; p.Text != item("c")[1:] || p.Archive.Name != "c" || p.Status != api.Unpacked {
		t.Errorf("c is %v", p)
	}
	for want, lists := range map[api.Errno][][]string{
		api.ErrItem:  {nil, {}, {""}, {"-"}, {"+"}, {"a"}, {"-A"}, {"-a", "+a"}, {"-a", "-a", " "}, {item("c") + "x"}, {strings.Repeat(item("c"), 1000)}, slices.Repeat([]string{"-a"}, api.MaxItems+1)},
		api.ErrTwice: {{"-a", "-a"}, {"-a", item("a")}, {item("a"), "-b", item("a")}, slices.Repeat([]string{"-a"}, api.MaxItems)},
	} {
		for _, items := range lists {
			if w, e := Parse(items); e != want || w.Remove != nil || w.Install != nil {
				t.Errorf("Parse(%.100q): %v, %d, want %d", items, w, e, want)
			}
		}
	}
}

func TestToBe(t *testing.T) {
	there := map[string]machine.Package{"a": {Text: "old"}, "b": {Text: "old"}, "c": {Text: "old"}}
	w, _ := Parse([]string{"-b", item("c"), item("d"), "-z"})
	toBe := w.ToBe(there)
	if !slices.Equal(slices.Sorted(maps.Keys(toBe)), []string{"a", "c", "d"}) || toBe["a"].Text != "old" || toBe["c"].Text == "old" {
		t.Errorf("there are to be %v", toBe)
	}
	if len(there) != 3 || there["c"].Text != "old" {
		t.Errorf("there are %v now", there)
	}
}
