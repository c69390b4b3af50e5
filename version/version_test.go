package version

import "testing"

func TestParse(t *testing.T) {
	for text, want := range map[string]Version{
		"1":                        {"0", "1", "0"},
		"1.0":                      {"0", "1.0", "0"},
		"0:1":                      {"0", "1", "0"},
		"0012:1":                   {"0012", "1", "0"},
		"1-2":                      {"0", "1", "2"},
		"1-2-3":                    {"0", "1-2", "3"},
		"1--~":                     {"0", "1-", "~"},
		"9:8aZ.+~-7-.+~":           {"9", "8aZ.+~-7", ".+~"},
		"123456789012345678901234": {"0", "123456789012345678901234", "0"},
	} {
		if v, ok := Parse(text); !ok || v != want {
			t.Errorf("Parse(%q) = %v, %t", text, v, ok)
		}
	}
	for _, text := range []string{
		"", "a", "-", ":", ":1", "1:", "1-", "-1", "1:-1", "1:-", "1:2-", "a:1", "1a:1", "+1:1", "-1:1",
		"12345:1", "1:2:3", "1-2:3", "1:a", "1:.1", ".1", "~1", "+1", "1_", "1-_", "1 ", " 1", "1\n", "1\x00",
		"1/2", "1\u00e4", "1\xff", "1234567890123456789012345",
	} {
		if v, ok := Parse(text); ok || v != (Version{}) {
			t.Errorf("Parse(%q) = %v, %t", text, v, ok)
		}
	}
}

// TestSigns: which bytes may stand in a main part, and which in a revision.
func TestSigns(t *testing.T) {
	for b := range 256 {
		sign := string([]byte{byte(b)})
		letter := 'a' <= b && b <= 'z' || 'A' <= b && b <= 'Z'
		want := letter || '0' <= b && b <= '9' || b == '.' || b == '+' || b == '~'
		if _, ok := Parse("1-" + sign); ok != want {
			t.Errorf("%q in a revision: %t", sign, ok)
		}
		// With a sign behind it "-" stays one of the main part.
		if _, ok := Parse("1" + sign + "1-1"); ok != (want || b == '-' || b == ':') {
			t.Errorf("%q in a main part: %t", sign, ok)
		}
	}
}

func TestCompare(t *testing.T) {
	// Each is below the next one.
	order := []string{
		"1~~", "1~~a", "1~", "1~1", "1~a", "1-0~", "1", "1-0A", "1-1", "1-2", "1-10", "1A", "1Z", "1a~", "1a", "1a1~", "1a1",
		"1aa", "1z", "1z+", "1+~", "1+", "1+a", "1++", "1-1-1", "1.", "1.0a", "1.1", "1.9", "1.10", "2", "10",
		"18446744073709551615", "18446744073709551616", "18446744073709551617", "1:0", "9:0", "10:0", "9999:0",
	}
	checkOrder(t, order)
	for _, pair := range [][2]string{
		{"1", "01"}, {"1", "0:1"}, {"1", "0000:1-0"}, {"1-0", "1-00"}, {"1.", "1.0"}, {"1a", "1a0"}, {"1a0", "1a000"}, {"01:1", "1:1"}, {"1.002-03", "1.2-3"},
	} {
		if c := compareTexts(t, pair[0], pair[1]); c != 0 {
			t.Errorf("Compare(%s, %s) = %d", pair[0], pair[1], c)
		}
	}
}

func checkOrder(t *testing.T, order []string) {
	t.Helper()
	for i, a := range order {
		for j, b := range order {
			want := 0
			switch {
			case i < j:
				want = -1
			case i > j:
				want = 1
			}
			if c := compareTexts(t, a, b); c != want {
				t.Errorf("Compare(%s, %s) = %d, want %d", a, b, c, want)
			}
		}
	}
}

func compareTexts(t *testing.T, a, b string) int {
	t.Helper()
	va, okA := Parse(a)
	vb, okB := Parse(b)
	if !okA || !okB {
		t.Fatalf("%s or %s is no version", a, b)
	}
	return Compare(va, vb)
}
