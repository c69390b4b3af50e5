package haven

import (
	"slices"
	"strconv"
	"strings"
	"testing"

	"haven/api"
	"haven/testdisk"
)

// fullItems are six, of the names a to f or g to l.
func fullItems(first byte) []string {
	var items []string
	for i := range byte(api.MaxItems) {
		items = append(items, plain(string([]byte{first + i})))
	}
	return items
}

// refusing gives a machine at which each refusal can be had: nine packages, sixteen files under /var/.
func refusing(t *testing.T) (*Host, *testdisk.Disk) {
	t.Helper()
	h, d := fresh(t, 1300)
	var puts []string
	for i := range api.MaxVar {
		puts = append(puts, "put /var/"+strconv.Itoa(i)+" x")
	}
	begins(t, h, api.OK, spec{name: "a", version: "1.0", files: file("/a", "one")}.item(), spec{name: "b", version: "2:1", needs: []string{"a 1"}}.item(),
		spec{name: "c", version: "1", needs: []string{"c"}, breaks: []string{"x", "c", "c"}}.item(), spec{name: "v", version: "1", runs: puts}.item())
	begins(t, h, api.OK, plain("o"), plain("p"), plain("r"), plain("s"), plain("t"))
	return h, d
}

// P5: each refusal, and that nothing is changed with it.
func TestP5Refused(t *testing.T) {
	h, d := refusing(t)
	before, calls := hostText(h), d.Calls
	of := func(name, version string, needs, breaks, files []string, runs ...string) string {
		s := spec{name: name, version: version, needs: needs, breaks: breaks, runs: runs}
		for _, path := range files {
			s.files = append(s.files, api.File{Path: path})
		}
		return s.item()
	}
	l := func(s ...string) []string { return s }
	a1 := spec{name: "a", version: "1.0", files: file("/a", "one")}.item()
	for _, c := range []struct {
		want  api.Errno
		items []string
	}{
		{api.ErrItem, nil}, {api.ErrItem, l()}, {api.ErrItem, l("")}, {api.ErrItem, l("-")}, {api.ErrItem, l("+")}, {api.ErrItem, l("a")}, {api.ErrItem, l("-A")}, {api.ErrItem, l("- a")}, {api.ErrItem, l("--a")}, {api.ErrItem, l("-1a")}, {api.ErrItem, l("-a\n")}, {api.ErrItem, l("-abcdefghijklm")},
		{api.ErrItem, l(plain("q") + "x")}, {api.ErrItem, l(plain("q")[1:])}, {api.ErrItem, l("-" + plain("q")[1:])}, {api.ErrItem, l("+a")}, {api.ErrItem, l(plain("q"), "")}, {api.ErrItem, append(fullItems('d'), "-a")}, {api.ErrItem, l("-c", "-o", "-p", "-r", "-s", "-t", "-v")},
		{api.ErrTwice, l("-c", "-c")}, {api.ErrTwice, l("-a", of("a", "2", nil, nil, nil))}, {api.ErrTwice, l(plain("q"), plain("q"))}, {api.ErrTwice, l(plain("q"), "-c", of("q", "2", nil, nil, nil))},
		{api.ErrAbsent, l("-q")}, {api.ErrAbsent, l("-c", "-abcdefghijkl")}, {api.ErrAbsent, l(plain("q"), "-w")},
		{api.ErrOld, l(a1)}, {api.ErrOld, l(of("a", "1.0-0", nil, nil, nil))}, {api.ErrOld, l(of("a", "1.0~", nil, nil, nil))}, {api.ErrOld, l(of("b", "9", nil, nil, nil))}, {api.ErrOld, l(of("a", "1.1", nil, nil, nil), plain("o"))},
		{api.ErrMany, fullItems('d')[:4]}, {api.ErrMany, append(fullItems('d')[:5], "-c")},
		{api.ErrNeeds, l("-a")}, {api.ErrNeeds, l(of("q", "1", l("w"), nil, nil))}, {api.ErrNeeds, l(of("q", "1", l("a 1.1"), nil, nil))}, {api.ErrNeeds, l(of("q", "1", l("a", "a 1.0-0a"), nil, nil))}, {api.ErrNeeds, l(of("q", "1", l("q 1.1"), nil, nil))}, {api.ErrNeeds, l("-b", of("q", "1", l("b"), nil, nil))}, {api.ErrNeeds, l(of("q", "1", l("w 2"), nil, nil), plain("w"))}, {api.ErrNeeds, l(of("b", "3:0", l("w"), nil, nil))},
		{api.ErrBreaks, l(of("q", "1", nil, l("a"), nil))}, {api.ErrBreaks, l(plain("x"))}, {api.ErrBreaks, l(of("q", "1", nil, l("q", "w"), nil), plain("w"))}, {api.ErrBreaks, l(of("a", "2", nil, l("b"), nil))},
		{api.ErrClash, l(of("q", "1", nil, nil, l("/a")))}, {api.ErrClash, l(of("q", "1", nil, nil, l("/q", "/z")), of("w", "1", nil, nil, l("/y", "/z")))}, {api.ErrClash, l(of("a", "2", nil, nil, l("/a")), of("w", "1", nil, nil, l("/a")))},
		{api.ErrVar, l(of("q", "1", nil, nil, nil, "put /var/more x"))}, {api.ErrVar, l(of("q", "1", nil, nil, nil, slices.Repeat(l("add /var/0 0123456789abcdef"), 13)...))},
		// Two that apply: the one that is named first.
		{api.ErrItem, l("-c", "-c", "x")}, {api.ErrTwice, l("-q", "-q")}, {api.ErrAbsent, l("-q", a1)}, {api.ErrOld, append(fullItems('d')[:4], a1)}, {api.ErrMany, append(fullItems('d')[:4], of("q", "1", l("nobody"), nil, nil))},
		{api.ErrNeeds, l(of("q", "1", l("nobody"), l("a"), nil))}, {api.ErrBreaks, l(of("q", "1", nil, l("a"), l("/a")))}, {api.ErrClash, l(of("q", "1", nil, nil, l("/a"), "put /var/more x"))},
	} {
		begins(t, h, c.want, c.items...)
		sees := hostText(h)
		if done, steps := h.Progress(); sees != before || done != 0 || steps != 0 {
			t.Fatalf("%.100q was refused, and there is %s, and %d, %d", c.items, sees, done, steps)
		}
	}
	if d.Calls != calls {
		t.Errorf("%d calls of the disk for what was refused", d.Calls-calls)
	}
}

// P5: what is just so allowed.
func TestP5Allowed(t *testing.T) {
	h, _ := refusing(t)
	begins(t, h, api.OK, spec{name: "q", version: "1", needs: []string{"a 1.0", "a 1.0-0", "b 2:1", "q 1", "w", "a 0"}, breaks: []string{"q", "nobody"}, files: file("/q", "")}.item(), plain("w"))
	begins(t, h, api.OK, "-q", "-w")
	// To replace what others need, or what has a path that goes elsewhere.
	begins(t, h, api.OK, spec{name: "a", version: "1.0-0a", needs: []string{"b"}}.item(), spec{name: "w", version: "1", files: file("/a", "two")}.item())
	begins(t, h, api.OK, "-c", plain("x"))
	begins(t, h, api.OK, "-b", "-a")
	h, _ = fresh(t, 1300)
	begins(t, h, api.OK, fullItems('a')...)
	begins(t, h, api.OK, fullItems('g')...)
	begins(t, h, api.ErrMany, plain("m"))
	begins(t, h, api.OK, plain("m"), "-c", spec{name: "l", version: "2"}.item())
	begins(t, h, api.OK, "-a", "-b", "-d", "-e", "-f", "-g")
	looks(t, h, "h 1 2; i 1 2; j 1 2; k 1 2; l 2 2; m 1 2", "")
}

// P5: the limits under /var/, behind each step, but not between the commands of one.
func TestP5Var(t *testing.T) {
	h, _ := fresh(t, 1300)
	run := func(want api.Errno, name string, commands ...string) {
		t.Helper()
		begins(t, h, want, spec{name: name, version: "1", runs: commands}.item())
	}
	var puts []string
	for i := range api.MaxVar {
		puts = append(puts, "put /var/"+strconv.Itoa(i)+" x")
	}
	run(api.OK, "a", puts...)
	run(api.ErrVar, "b", "put /var/b x")
	run(api.ErrVar, "b", "put /var/b x", "drop /var/none")
	run(api.OK, "b", "put /var/b x", "drop /var/0", "put /var/c x", "drop /var/c")
	long := slices.Repeat([]string{"add /var/b 0123456789abcdef"}, 12)
	run(api.ErrVar, "c", append(slices.Clone(long), "add /var/b 12345678")...)
	run(api.OK, "c", append(slices.Clone(long), "add /var/b 1234567")...)
	run(api.ErrVar, "d", "add /var/b x")
	run(api.OK, "d", "add /var/b x", "copy /var/b /var/1", "put /var/1 x", "drop /var/b", "put /var/b x")
	content := strings.Repeat("x", api.MaxText)
	begins(t, h, api.ErrVar, spec{name: "e", version: "1", files: file("/e", content+"x"), runs: []string{"copy /e /var/b"}}.item())
	begins(t, h, api.OK, spec{name: "e", version: "1", files: file("/e", content), runs: []string{"copy /e /var/b"}}.item())
	// More behind the step of one that a later step takes away again; more behind a trigger.
	begins(t, h, api.ErrVar, spec{name: "f", version: "1", runs: []string{"put /var/f x"}}.item(), spec{name: "g", version: "1", runs: []string{"drop /var/f"}}.item())
	begins(t, h, api.ErrVar, spec{name: "f", version: "1", wakes: []string{"/f"}, files: file("/f", ""), wokens: []string{"list /var/f"}}.item())
	begins(t, h, api.OK, spec{name: "f", version: "1", wakes: []string{"/f"}, files: file("/f", ""), wokens: []string{"list /var/f", "drop /var/f"}}.item())
	// A list of more bytes than may be: nine paths of 24.
	var files []api.File
	for i := range 9 {
		files = append(files, api.File{Path: "/l/" + strings.Repeat("p", 20) + strconv.Itoa(i)})
	}
	begins(t, h, api.OK, spec{name: "h", version: "1", wakes: []string{"/l"}, wokens: []string{"list /var/b"}}.item())
	begins(t, h, api.ErrVar, spec{name: "i", version: "1", files: files}.item())
	begins(t, h, api.OK, spec{name: "i", version: "1", files: files[1:]}.item())
}

// sized gives an archive's item of so many bytes, the sign counted.
func sized(name string, size int, runs ...string) string {
	for n := range size {
		item := spec{name: name, version: "1", files: file("/"+name, strings.Repeat("x", n)), runs: runs}.item()
		if len(item) == size {
			return item
		}
	}
	panic("no item of that size")
}

// P5: the disk is too small just if 8 times the size is more than its bytes, less 32 sectors.
func TestP5Room(t *testing.T) {
	const sectors = 200
	room := (sectors-32)*api.Sector/8 - api.MaxVar*api.MaxText
	h, d := fresh(t, sectors)
	writes := d.Writes
	begins(t, h, api.ErrRoom, sized("a", 1100), sized("b", room-1100+1))
	looks(t, h, "", "")
	if d.Writes != writes {
		t.Errorf("%d writes for what was refused", d.Writes-writes)
	}
	begins(t, h, api.OK, sized("a", 1100), sized("b", room-1100))
	// Now the archives count without the sign of their items.
	begins(t, h, api.OK, "-a")
	begins(t, h, api.ErrRoom, sized("c", 1102))
	begins(t, h, api.OK, sized("c", 1101))
	// Behind ErrVar, ahead of nothing.
	begins(t, h, api.ErrVar, spec{name: "d", version: "1", files: file("/d", strings.Repeat("x", 201)), runs: []string{"copy /d /var/d"}}.item())
	begins(t, h, api.ErrRoom, spec{name: "d", version: "1", files: file("/d", strings.Repeat("x", 200)), runs: []string{"copy /d /var/d"}}.item())
	for _, n := range []int{api.MinSectors, 131, 132} {
		h, _ = fresh(t, n)
		begins(t, h, api.ErrRoom, plain("a"))
	}
	h, _ = fresh(t, 133)
	begins(t, h, api.OK, plain("a"))
}

// P5: whatever is not refused for room has room: most packages, most files under /var/, on the smallest disk for them.
func TestP5RoomHolds(t *testing.T) {
	const names = "abcdefghijkl"
	var copies, packages []string
	for i := range api.MaxVar {
		copies = append(copies, "copy /a /var/"+strings.Repeat("p", 17)+string(names[i%12])+strconv.Itoa(i/12))
	}
	first := spec{name: "a", version: "1", files: file("/a", strings.Repeat("x", api.MaxText)), runs: copies}
	for _, name := range names {
		packages = append(packages, string(name)+" 1 2")
	}
	for _, bytes := range []int{70, 2001} {
		items := []string{first.item()}
		for _, name := range names[1:] {
			items = append(items, sized(string(name), bytes))
		}
		for sectors := 133; ; sectors++ {
			h, d := fresh(t, sectors)
			if bothBegin(t, h, items) {
				again := mounted(t, d.Again(lasted))
				looks(t, again, strings.Join(packages, "; "), treeText(h))
				begins(t, again, api.OK, "-l", "-k", "-j", "-i", "-h", "-g")
				break
			}
		}
	}
}

// bothBegin begins the two halves of twelve items; false, if there is no room for them.
func bothBegin(t *testing.T, h *Host, items []string) bool {
	t.Helper()
	for _, half := range [][]string{items[:6], items[6:]} {
		switch e := h.Begin(half); e {
		case api.ErrRoom:
			return false
		case api.OK:
		default:
			t.Fatalf("Begin: %d", e)
		}
	}
	return true
}

func treeText(h *Host) string {
	var parts []string
	for _, f := range h.Tree() {
		parts = append(parts, f.Path+" "+f.Content)
	}
	return strings.Join(parts, "; ")
}

// P5: while a transaction is under way there is ErrBusy, whatever the items; behind it there is not.
func TestP5Busy(t *testing.T) {
	d := underWay(t)
	h := mounted(t, d)
	before, writes := hostText(h), d.Writes
	for _, items := range [][]string{nil, {"x"}, {"-q"}, {plain("a")}, {"-menu", "-menu"}} {
		begins(t, h, api.ErrBusy, items...)
	}
	done, steps := h.Progress()
	if hostText(h) != before || d.Writes != writes || done != 1 || steps != 2 {
		t.Errorf("there is %s now, and %d of %d steps", hostText(h), done, steps)
	}
	if e := h.Resume(); e != api.OK {
		t.Errorf("Resume: %d", e)
	}
	begins(t, h, api.OK, plain("a"))
}
