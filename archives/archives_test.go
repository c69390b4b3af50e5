package archives

import (
	"reflect"
	"strings"
	"testing"
)

const (
	emptyHash = "e3b0c44298fc1c14"
	greenHash = "ba4788b226aa8dc2"
)

func lines(l ...string) string {
	return "haven 1\nname a\nversion 1\n" + strings.Join(append(l, "", ""), "\n")
}

func TestParseParts(t *testing.T) {
	text := lines(
		"needs b", "needs a 1:2-3", "breaks c", "breaks a", "wakes /var/x", "wakes /bin",
		"file /e 0 "+emptyHash, "file /g 5 "+greenHash, "file /f 0 "+emptyHash,
		"run put /var/a !", "run add /var/b ~", "run copy /e /var/c", "run copy /var/c /var/c", "run drop /var/d",
		"woken list /var/e", "woken drop /var/f",
	) + "green"
	want := Archive{
		Name: "a", Version: "1",
		Needs:  []Need{{"b", ""}, {"a", "1:2-3"}},
		Breaks: []string{"c", "a"},
		Wakes:  []string{"/var/x", "/bin"},
		Files:  []File{{"/e", ""}, {"/g", "green"}, {"/f", ""}},
		Runs: []Command{
			{Verb: Put, Path: "/var/a", Word: "!"}, {Verb: Add, Path: "/var/b", Word: "~"},
			{Verb: Copy, Path: "/var/c", From: "/e"}, {Verb: Copy, Path: "/var/c", From: "/var/c"},
			{Verb: Drop, Path: "/var/d"},
		},
		Wokens: []Command{{Verb: List, Path: "/var/e"}, {Verb: Drop, Path: "/var/f"}},
	}
	if got, ok := Parse(text); !ok || !reflect.DeepEqual(got, want) {
		t.Errorf("Parse(%q) = %+v, %t, want %+v", text, got, ok, want)
	}
	if got, ok := Parse(text + "!"); ok || !reflect.DeepEqual(got, Archive{}) {
		t.Errorf("beside a false: %+v, %t", got, ok)
	}
}

// TestOrderOfKinds: a line of each kind may stand behind one of its own kind or of an earlier one.
func TestOrderOfKinds(t *testing.T) {
	kinds := []string{"needs b", "breaks b", "wakes /b", "file /PATH 0 " + emptyHash, "run drop /var/b", "woken drop /var/b"}
	for i, first := range kinds {
		for j, second := range kinds {
			text := lines(strings.Replace(first, "PATH", "a", 1), strings.Replace(second, "PATH", "b", 1))
			if _, ok := Parse(text); ok != (i <= j) {
				t.Errorf("%q behind %q: %t", second, first, ok)
			}
		}
	}
}

func TestParseSize(t *testing.T) {
	for s, want := range map[string]int{"0": 0, "1": 1, "10": 10, "1999": 1999, "9999": 9999} {
		if got, ok := parseSize(s); got != want || !ok {
			t.Errorf("parseSize(%q) = %d, %t", s, got, ok)
		}
	}
	for _, s := range []string{"", "00", "01", "10000", "-1", "+1", "-0", "+0", "1_0", "0x1", "1.", " 1", "1 ", "a", "1a"} {
		if got, ok := parseSize(s); got != 0 || ok {
			t.Errorf("parseSize(%q) = %d, %t", s, got, ok)
		}
	}
}

func TestParseCommand(t *testing.T) {
	for _, s := range []string{
		"", "put", "put /var/a", "put /var/a b c", "put /etc/a b", "put b /var/a", "put  /var/a b", "put /var/a ", "put /var/a\tb",
		"put /var/a 12345678901234567", "add", "add /var/a", "add /var/ b", "add /var/a b c", "copy", "copy /a", "copy /a /b",
		"copy /var/a /b", "copy a /var/a", "copy / /var/a", "copy /a /var/a /var/b", "drop", "drop /a", "drop /var/a /var/b",
		"drop /var/a ", "list", "list /a", "list /var/a b", "Put /var/a b", "move /a /var/a",
	} {
		if c, ok := parseCommand(strings.Split(s, " ")); ok || c != (Command{}) {
			t.Errorf("parseCommand(%q) = %v, %t", s, c, ok)
		}
	}
	if c, ok := parseCommand(strings.Split("list /var/a", " ")); !ok || c != (Command{Verb: List, Path: "/var/a"}) {
		t.Errorf("parseCommand(list) = %v, %t", c, ok)
	}
}
