package pack

import (
	"crypto/sha256"
	"encoding/hex"
	"math/big"
	"math/rand"
	"reflect"
	"regexp"
	"slices"
	"strconv"
	"strings"
	"sync"
	"testing"
	"unsafe"

	"haven/api"
)

const tea = "haven 1\nname tea\nversion 1.0\nfile /bin/tea 5 ba4788b226aa8dc2\nrun add /var/log tea\n\ngreen"

// full has a line of each kind and three files.
func full() string {
	return archive("full", "2:1.5-3", "needs tea", "needs cup 1.0~", "breaks pot", "wakes /bin", "file /bin/a alpha", "file /e ", "file /lib/b beta\n\n\n", "run put /var/a b", "run copy /bin/a /var/c", "woken list /var/l")
}

func hash(s string) string {
	sum := sha256.Sum256([]byte(s))
	return hex.EncodeToString(sum[:8])
}

// archive makes one of a name, a version and lines; a file's line gives its content in place of size and hash.
func archive(name, version string, lines ...string) string {
	head, contents := "haven 1\nname "+name+"\nversion "+version+"\n", ""
	for _, line := range lines {
		if rest, isFile := strings.CutPrefix(line, "file "); isFile {
			path, content, _ := strings.Cut(rest, " ")
			line = fileLine(path, content)
			contents += content
		}
		head += line + "\n"
	}
	return head + "\n" + contents
}

func fileLine(path, content string) string {
	return "file " + path + " " + strconv.Itoa(len(content)) + " " + hash(content)
}

func refused(t *testing.T, s string) {
	t.Helper()
	if info, e := Inspect(s); e != api.ErrArchive || !reflect.DeepEqual(info, api.Info{}) {
		t.Errorf("Inspect(%q) = %+v, %d", s, info, e)
	}
}

func accepted(t *testing.T, s string, want api.Info) {
	t.Helper()
	if info, e := Inspect(s); e != api.OK || !reflect.DeepEqual(info, want) {
		t.Errorf("Inspect(%q) = %+v, %d, want %+v", s, info, e, want)
	}
}

// P1: no string makes a call panic; beside an error all else is 0, nil or empty.
func TestP1AnyBytes(t *testing.T) {
	random := rand.New(rand.NewSource(1))
	for _, base := range []string{tea, full(), archive("a", "1", "woken copy /a /var/b")} {
		for i := range len(base) {
			sound(t, base[:i])
			sound(t, base[i:])
			sound(t, base[:i]+base[i+1:])
			for _, sign := range "\x00\n -/:~0Az\u00e4" {
				sound(t, base[:i]+string(sign)+base[i:])
				sound(t, base[:i]+string(sign)+base[i+1:])
			}
			sound(t, base[:i]+string([]byte{byte(random.Intn(256))})+base[i+1:])
		}
	}
	for _, s := range []string{"\n", "\n\n", " ", "haven 1\n", "file ", "\xff", "run put /var/a b\n"} {
		sound(t, strings.Repeat(s, 100000))
	}
	for range 20000 {
		s := make([]byte, random.Intn(30))
		for i := range s {
			s[i] = byte(random.Intn(256))
		}
		sound(t, string(s))
	}
}

func sound(t *testing.T, s string) {
	t.Helper()
	info, e := Inspect(s)
	switch {
	case e != api.OK && e != api.ErrArchive:
		t.Errorf("Inspect(%q): %d", s, e)
	case e != api.OK && !reflect.DeepEqual(info, api.Info{}):
		t.Errorf("Inspect(%q): beside an error %+v", s, info)
	case e == api.OK && (info.Name == "" || info.Version == "" || len(info.Paths) != info.Files):
		t.Errorf("Inspect(%q) = %+v", s, info)
	}
	c, e := Compare(s, "1")
	d, f := Compare("1", s)
	if e != f || c != -d || e != api.OK && (e != api.ErrVersion || c != 0) {
		t.Errorf("Compare of %q and 1: %d, %d, and turned round %d, %d", s, c, e, d, f)
	}
}

// P2: an answer depends on the arguments alone, and shares no list with an answer ahead, spare room too.
func TestP2Inspect(t *testing.T) {
	first, _ := Inspect(full())
	want := slices.Clone(first.Paths)
	spare := first.Paths[:cap(first.Paths)]
	for i := range spare {
		spare[i] = "spoiled"
	}
	_ = append(first.Paths, "spoiled")
	second, e := Inspect(full())
	if e != api.OK || !slices.Equal(second.Paths, want) {
		t.Errorf("the second answer: %+v, %d", second, e)
	}
	third, _ := Inspect(full())
	third.Paths[0] = "spoiled"
	if !slices.Equal(second.Paths, want) {
		t.Errorf("the second answer, when the third is spoiled: %+v", second)
	}
}

// P2: what is handed in is not kept: the answer stays, when the archive's memory is used for something else.
func TestP2InspectKeepsNothing(t *testing.T) {
	want, _ := Inspect(full())
	lent := []byte(full())
	info, e := Inspect(unsafe.String(&lent[0], len(lent)))
	if string(lent) != full() {
		t.Errorf("Inspect has changed the archive to %q", lent)
	}
	clear(lent)
	if e != api.OK || !reflect.DeepEqual(info, want) {
		t.Errorf("the answer, when the archive is gone: %+v, %d, want %+v", info, e, want)
	}
}

// P2: several goroutines may call at once.
func TestP2AtOnce(t *testing.T) {
	want, _ := Inspect(full())
	var all sync.WaitGroup
	for range 8 {
		all.Go(func() {
			for range 200 {
				if info, e := Inspect(full()); e != api.OK || !reflect.DeepEqual(info, want) {
					t.Errorf("Inspect = %+v, %d", info, e)
				}
				if c, e := Compare("1.2", "1.10"); c != -1 || e != api.OK {
					t.Errorf("Compare = %d, %d", c, e)
				}
			}
		})
	}
	all.Wait()
}

// P3, and example 1 of the document.
func TestP3CompareExamples(t *testing.T) {
	for _, c := range []struct {
		a, b string
		want int
	}{
		{"1.0", "1.0-0", 0}, {"1.2", "1.10", -1}, {"1.0~rc1", "1.0", -1}, {"1:0.9", "2.0", 1}, {"1.0a", "1.0+", -1}, {"1.0", "1.0a", -1},
	} {
		compares(t, c.a, c.b, c.want)
		compares(t, c.b, c.a, -c.want)
	}
}

func compares(t *testing.T, a, b string, want int) {
	t.Helper()
	if c, e := Compare(a, b); c != want || e != api.OK {
		t.Errorf("Compare(%s, %s) = %d, %d, want %d", a, b, c, e, want)
	}
}

// P3: no version on either side, or on both.
func TestP3CompareNoVersion(t *testing.T) {
	for _, s := range []string{"", "a", ":1", "1:", "1-", "-1", "x:1", "12345:1", "1:1:1", "1:~", "1_", "1 ", "1\n", "1\x00", "1\u00e4", "1234567890123456789012345"} {
		for _, pair := range [][2]string{{s, "1"}, {"1", s}, {s, s}} {
			if c, e := Compare(pair[0], pair[1]); c != 0 || e != api.ErrVersion {
				t.Errorf("Compare(%q, %q) = %d, %d", pair[0], pair[1], c, e)
			}
		}
	}
}

// P3: against a second way of comparing, on random versions.
func TestP3CompareAgain(t *testing.T) {
	random := rand.New(rand.NewSource(2))
	pick := func(signs string, most int) string {
		s := ""
		for range random.Intn(most + 1) {
			s += string(signs[random.Intn(len(signs))])
		}
		return s
	}
	version := func() string {
		s := pick("01", 1) + "1" + pick("0019aZ~+.-", 5)
		if random.Intn(4) == 0 {
			s = "0" + pick("01", 2) + ":" + s
		}
		if random.Intn(3) == 0 || strings.HasSuffix(s, "-") {
			s += "-" + pick("01a~.", 2) + pick("01", 1) + "0"
		}
		return s
	}
	for range 50000 {
		a, b := version(), version()
		compares(t, a, b, slices.Compare(ranks(a), ranks(b)))
	}
}

var row = regexp.MustCompile(`(\D*)(\d*)`)

// ranks turns a version into numbers that, compared one by one, are in its order.
func ranks(version string) []int {
	epoch, main, found := strings.Cut(version, ":")
	if !found {
		epoch, main = "0", version
	}
	revision := "0"
	if at := strings.LastIndex(main, "-"); at >= 0 {
		main, revision = main[:at], main[at+1:]
	}
	numbers := []int{number(epoch)}
	for _, part := range []string{main, revision} {
		numbers = append(numbers, partRanks(part)...)
	}
	return numbers
}

// partRanks fills up with empty rows, so that parts of any length have as many numbers.
func partRanks(part string) []int {
	var numbers []int
	for _, m := range row.FindAllStringSubmatch(part, -1) {
		for _, sign := range m[1] {
			numbers = append(numbers, strings.IndexRune("~$Za+-.", sign))
		}
		numbers = append(numbers, 1, number(m[2]))
	}
	for len(numbers) < 60 {
		numbers = append(numbers, 1, 0)
	}
	return numbers
}

func number(digits string) int {
	n, _ := new(big.Int).SetString("0"+digits, 10)
	return int(n.Int64())
}

// P3: ordinary archives; the first one is the one of example 2.
func TestP3Inspect(t *testing.T) {
	if tea != archive("tea", "1.0", "file /bin/tea green", "run add /var/log tea") {
		t.Error("the archive of example 2 is another one")
	}
	accepted(t, tea, api.Info{Name: "tea", Version: "1.0", Files: 1, Runs: 1, Paths: []string{"/bin/tea"}})
	accepted(t, archive("menu", "1", "wakes /bin", "woken list /var/menu"), api.Info{Name: "menu", Version: "1", Wakes: 1, Wokens: 1})
	accepted(t, full(), api.Info{Name: "full", Version: "2:1.5-3", Needs: 2, Breaks: 1, Wakes: 1, Files: 3, Runs: 2, Wokens: 1, Paths: []string{"/bin/a", "/e", "/lib/b"}})
	accepted(t, archive("a", "1", "needs a", "needs a 2", "breaks a", "breaks a"), api.Info{Name: "a", Version: "1", Needs: 2, Breaks: 2})
	accepted(t, archive("a", "1", "file /z x", "file /b x", "file /var x", "file /varx/a x"), api.Info{Name: "a", Version: "1", Files: 4, Paths: []string{"/z", "/b", "/var", "/varx/a"}})
}

// P3: the limits, and one beyond each of them.
func TestP3InspectLimits(t *testing.T) {
	room := api.MaxArchive - len(archive("a", "1", "file /a "+strings.Repeat("x", 1000))) + 1000
	accepted(t, archive("a", "1", "file /a "+strings.Repeat("x", room)), api.Info{Name: "a", Version: "1", Files: 1, Paths: []string{"/a"}})
	refused(t, archive("a", "1", "file /a "+strings.Repeat("x", room+1)))

	drops := slices.Repeat([]string{"woken drop /var/a"}, api.MaxLines)
	accepted(t, archive("a", "1", drops[:api.MaxLines-3]...), api.Info{Name: "a", Version: "1", Wokens: api.MaxLines - 3})
	refused(t, archive("a", "1", drops[:api.MaxLines-2]...))

	name, version := strings.Repeat("n", api.MaxName), strings.Repeat("1", api.MaxVersion)
	accepted(t, archive(name, version), api.Info{Name: name, Version: version})
	refused(t, archive(name+"n", "1"))
	refused(t, archive("a", version+"1"))
	for _, line := range []string{"needs " + name, "breaks " + name, "needs b " + version, "wakes " + longPath(), "run drop " + longVarPath(), "run put /var/a " + longWord()} {
		if _, e := Inspect(archive("a", "1", line)); e != api.OK {
			t.Errorf("%q: %d", line, e)
		}
		refused(t, archive("a", "1", line+"1"))
	}
	accepted(t, archive("a", "1", "file "+longPath()+" x"), api.Info{Name: "a", Version: "1", Files: 1, Paths: []string{longPath()}})
	refused(t, archive("a", "1", "file "+longPath()+"p x"))
}

func longPath() string { return "/" + strings.Repeat("p", api.MaxPath-1) }

func longVarPath() string { return "/var/" + strings.Repeat("p", api.MaxPath-5) }

func longWord() string { return strings.Repeat("~", api.MaxWord) }

// P3: what is wrong with the lines as a whole.
func TestP3InspectNoLines(t *testing.T) {
	for _, s := range []string{
		"", "\n", "\n\n", "haven 1\n\n", "haven 1\nname a\n\n", "haven 1\nname a\nversion 1", "haven 1\nname a\nversion 1\n",
		"\nhaven 1\nname a\nversion 1\n\n", "haven 1\nname a\nversion 1\n\n\n", "haven 1\nname a\nversion 1\n\nx",
		"haven 2\nname a\nversion 1\n\n", "haven 1 \nname a\nversion 1\n\n", "haven  1\nname a\nversion 1\n\n", "haven 1\n\nname a\nversion 1\n\n",
		"name a\nhaven 1\nversion 1\n\n", "haven 1\nversion 1\nname a\n\n", "name a\nversion 1\n\n", "haven 1\nname\nversion 1\n\n",
		"haven 1\nname a\nname a\nversion 1\n\n", "haven 1\nname a\nversion 1\nversion 1\n\n", "haven 1\nneeds b\nname a\nversion 1\n\n",
		"haven 1\r\nname a\r\nversion 1\r\n\r\n", " haven 1\nname a\nversion 1\n\n", "haven 1\nname  a\nversion 1\n\n", "haven 1\nname a \nversion 1\n\n",
		archive("", "1"), archive("A", "1"), archive("1", "1"), archive("-", "1"), archive("a.b", "1"), archive("a b", "1"), archive("a", ""), archive("a", "x"), archive("a", "1 "), archive("a", "1:"),
	} {
		refused(t, s)
	}
}

// P3: what is wrong with a line.
func TestP3InspectWrongLine(t *testing.T) {
	for _, line := range []string{
		"needs", "needs ", "needs B", "needs b ", "needs b x", "needs b 1 2", "needs  b", "needs b  1", " needs b", "Needs b", "needsb",
		"breaks", "breaks ", "breaks 1", "breaks b 1", "wakes", "wakes /", "wakes bin", "wakes /bin/", "wakes //bin", "wakes /bin /etc",
		"run", "run ", "run fly /var/a", "run list /var/a", "run put /var/a", "run put /var/a b c", "run put /a b",
		"run put /var/a \x7f", "run put /var/a \u00e4", "run put /var/a b\t", "run add /var/a", "run add /etc/a b", "run copy /var/a", "run copy /var/a /a", "run copy a /var/a",
		"run copy /a /var/a /var/b", "run drop", "run drop /var", "run drop /var/", "run drop /var/a b", "run  drop /var/a", "woken", "woken list", "woken list /a",
		"woken list /var/a b", "woken woken", "other", "# a remark", "haven 1", "name a", "version 1",
	} {
		refused(t, archive("a", "1", line))
		refused(t, archive("a", "1", "needs b", line))
	}
	for _, pair := range [][2]string{
		{"breaks b", "needs c"}, {"wakes /b", "breaks b"}, {"file /b x", "wakes /b"}, {"run drop /var/a", "file /b x"}, {"woken drop /var/a", "run drop /var/a"}, {"woken drop /var/a", "needs b"},
	} {
		refused(t, archive("a", "1", pair[0], pair[1]))
	}
}

// P3: what is wrong with a file, its size, its hash or its content.
func TestP3InspectWrongFile(t *testing.T) {
	for _, path := range []string{"/var/a", "/var/a/b", "a", "/", "/a/", "/a//b", "/A", "", longPath() + "p"} {
		refused(t, archive("a", "1", "file "+path+" x"))
	}
	refused(t, archive("a", "1", "file /a x", "file /a y"))
	refused(t, archive("a", "1", "file /a x", "file /b x", "file /a x"))
	for _, size := range []string{"", "4", "6", "05", "+5", "-5", "5.", "00005", "0x5", "99999", "9999", "0", "five"} {
		refused(t, strings.Replace(tea, " 5 ", " "+size+" ", 1))
	}
	for _, other := range []string{"", "ba4788b226aa8dc", "ba4788b226aa8dc22", "BA4788B226AA8DC2", "ca4788b226aa8dc2", "ba4788b226aa8dc3", "ba4788b226aa8dc2 ", "ba4788b226aa8dc2 x"} {
		refused(t, strings.Replace(tea, "ba4788b226aa8dc2", other, 1))
	}
	for _, s := range []string{tea + "x", tea + "\n", tea[:len(tea)-1], strings.Replace(tea, "green", "greem", 1), strings.Replace(tea, "green", "", 1)} {
		refused(t, s)
	}
	for _, line := range []string{"file", "file ", "file /a", "file /a 0", "file /a 0 ", "file  /a 0 e3b0c44298fc1c14", "file /a e3b0c44298fc1c14 0", "file /a 0 e3b0c44298fc1c14 0"} {
		refused(t, "haven 1\nname a\nversion 1\n"+line+"\n\n")
	}
	// Contents in an order that is not that of the lines.
	refused(t, "haven 1\nname a\nversion 1\n"+fileLine("/a", "x")+"\n"+fileLine("/b", "y")+"\n\nyx")
	refused(t, strings.Replace(archive("a", "1", "file /a "), " 0 ", " 00 ", 1))
}
