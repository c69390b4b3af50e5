package record

import (
	"reflect"
	"strings"
	"testing"

	"haven/api"
)

func full() Record {
	return Record{
		Archives: []string{"haven 1\n\nfile /a 1\n", ""},
		Files:    []api.File{{Path: "/var/a", Content: ""}, {Path: "/var/b", Content: "item 3\nabc\x00\xff"}},
		Items:    []string{"-a", "+\n\n"},
	}
}

func TestRoundTrip(t *testing.T) {
	for _, r := range []Record{{}, full(), {Items: []string{""}}, {Files: full().Files}} {
		if got, ok := Decode(r.Encode()); !ok || !reflect.DeepEqual(got, r) {
			t.Errorf("%+v has become %+v, %t", r, got, ok)
		}
	}
}

func TestNoRecord(t *testing.T) {
	for _, text := range []string{
		"\n", "x", "item", "item 0", "item\n", "item \n", "item x\n", "item -1\n", "item 1\n", "item 2\na", "item 1\nab", "item 1\na\n", "0\n", " 0\n",
		"file 0\n", "file /var/a b 0\n", "archive a 0\n", "item a 0\n", "other 0\n", "item 99999999999999999999\n",
	} {
		if r, ok := Decode(text); ok || !reflect.DeepEqual(r, Record{}) {
			t.Errorf("Decode(%q) = %+v, %t", text, r, ok)
		}
	}
	text := full().Encode()
	for i := range text {
		Decode(text[:i])
		Decode(text[i:])
		Decode(strings.Replace(text, text[i:i+1], "9", 1))
	}
}
