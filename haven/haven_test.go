package haven

import (
	"errors"
	"math/rand"
	"reflect"
	"slices"
	"strconv"
	"strings"
	"sync"
	"testing"
	"unsafe"

	"haven/api"
	"haven/faults"
	"haven/testdisk"
)

func lasted(states int) int { return 0 }

func file(path, content string) []api.File { return []api.File{{Path: path, Content: content}} }

func tea() string {
	return spec{name: "tea", version: "1.0", files: file("/bin/tea", "green"), runs: []string{"add /var/log tea"}}.item()
}

func menu() string {
	return spec{name: "menu", version: "1", wakes: []string{"/bin"}, wokens: []string{"list /var/menu"}}.item()
}

// plain is a package of a name alone.
func plain(name string) string { return spec{name: name, version: "1"}.item() }

func mounted(t *testing.T, d api.Disk) *Host {
	t.Helper()
	h, e := Mount(d)
	if h == nil || e != api.OK {
		t.Fatalf("P4: Mount: %d", e)
	}
	return h
}

func fresh(t *testing.T, sectors int) (*Host, *testdisk.Disk) {
	t.Helper()
	d := testdisk.New(sectors)
	if e := Format(d); e != api.OK {
		t.Fatalf("P4: Format: %d", e)
	}
	return mounted(t, d), d
}

func begins(t *testing.T, h *Host, want api.Errno, items ...string) {
	t.Helper()
	if e := h.Begin(items); e != want {
		t.Errorf("Begin(%.200q) = %d, want %d", items, e, want)
	}
}

// looks holds packages (name, version, status) and tree (path, content) against what they are to be.
func looks(t *testing.T, h *Host, packages, tree string) {
	t.Helper()
	var p, f []string
	for _, x := range h.Packages() {
		p = append(p, x.Name+" "+x.Version+" "+strconv.Itoa(x.Status))
	}
	for _, x := range h.Tree() {
		f = append(f, x.Path+" "+x.Content)
	}
	if s := strings.Join(p, "; "); s != packages {
		t.Errorf("the packages are %q, want %q", s, packages)
	}
	if s := strings.Join(f, "; "); s != tree {
		t.Errorf("the tree is %q, want %q", s, tree)
	}
}

func isLost(t *testing.T, h *Host) {
	t.Helper()
	if e := h.Begin([]string{plain("a")}); e != api.ErrLost {
		t.Errorf("P7: Begin of a lost host: %d", e)
	}
	if e := h.Begin(nil); e != api.ErrLost {
		t.Errorf("P7: Begin of no items of a lost host: %d", e)
	}
	if e := h.Resume(); e != api.ErrLost {
		t.Errorf("P7: Resume of a lost host: %d", e)
	}
	done, steps := h.Progress()
	if len(h.Packages()) != 0 || len(h.Tree()) != 0 || done != 0 || steps != 0 {
		t.Errorf("P7: a lost host tells %v, %v, %d, %d", h.Packages(), h.Tree(), done, steps)
	}
}

// cutAt gives a clone of a disk on which the power has gone when so many steps of so many were done.
func cutAt(t *testing.T, d *testdisk.Disk, wantDone, wantSteps int, items ...string) *testdisk.Disk {
	t.Helper()
	for left := range 1000 {
		other := d.Clone()
		h := mounted(t, other)
		other.Left = left
		begins(t, h, api.ErrGone, items...)
		other = other.Again(lasted)
		if done, steps := mounted(t, other).Progress(); done == wantDone && steps == wantSteps {
			return other
		}
	}
	t.Fatalf("P8: %d steps of %d are never seen", wantDone, wantSteps)
	return nil
}

// underWay gives a disk on which the first of the two steps that remove tea is done.
func underWay(t *testing.T) *testdisk.Disk {
	t.Helper()
	h, d := fresh(t, 300)
	begins(t, h, api.OK, tea(), menu())
	return cutAt(t, d, 1, 2, "-tea")
}

// P4: the sizes that may be, and one beyond each.
func TestP4Sizes(t *testing.T) {
	for _, n := range []int{0, 1, api.MinSectors - 1, api.MaxSectors + 1} {
		d := testdisk.New(n)
		if e := Format(d); e != api.ErrArg {
			t.Errorf("Format of %d sectors: %d", n, e)
		}
		if h, e := Mount(d); h != nil || e != api.ErrArg {
			t.Errorf("Mount of %d sectors: %v, %d", n, h, e)
		}
		if d.Calls != 0 {
			t.Errorf("%d calls of a disk of %d sectors", d.Calls, n)
		}
	}
	if h, e := Mount(nil); h != nil || e != api.ErrArg || Format(nil) != api.ErrArg {
		t.Errorf("Mount of no disk: %v, %d", h, e)
	}
	for _, n := range []int{api.MinSectors, api.MinSectors + 1, 255, api.MaxSectors - 1, api.MaxSectors} {
		h, d := fresh(t, n)
		looks(t, h, "", "")
		looks(t, mounted(t, d.Again(lasted)), "", "")
	}
}

// P4: what is no machine: noughts, other bytes, a machine of which a sector that it needs is another.
func TestP4None(t *testing.T) {
	isNone := func(d *testdisk.Disk) {
		t.Helper()
		if h, e := Mount(d); h != nil || e != api.ErrNone {
			t.Errorf("Mount: %v, %d", h, e)
		}
		if d.Writes != 0 {
			t.Errorf("Mount has written to a disk without a machine")
		}
	}
	isNone(testdisk.New(100))
	for _, s := range []string{"\xff", "haven 1\n", "\n", " ", "0", "haven\n", "a\x00"} {
		d := testdisk.New(100)
		for n := range 100 {
			d.Spoil(n, strings.Repeat(s, api.Sector)[:api.Sector])
		}
		isNone(d)
	}
	d := underWay(t)
	var needed int
	for n := range 300 {
		other := d.Clone()
		other.Spoil(n, strings.Repeat("\x00", api.Sector))
		if _, e := Mount(other); e != api.OK {
			needed++
			isNone(other)
		}
	}
	if needed < 2 {
		t.Errorf("%d sectors are needed only", needed)
	}
}

// P1: any bytes in the sectors that a machine needs: each call ends, and what is found is the machine or none.
func TestP1SpoiledDisk(t *testing.T) {
	d := underWay(t)
	random := rand.New(rand.NewSource(3))
	for range 20000 {
		other := d.Clone()
		n := random.Intn(2) * random.Intn(300)
		data := []byte(other.Now(n))
		for range 1 + random.Intn(3) {
			data[random.Intn(60)] = "\x000123456789+- \nabcz\xff"[random.Intn(20)]
		}
		other.Spoil(n, string(data))
		if h, e := Mount(other); e == api.OK {
			h.Progress()
			h.Tree()
			if e := h.Resume(); e != api.OK {
				t.Fatalf("Resume: %d, with %q in sector %d", e, data, n)
			}
		} else if e != api.ErrNone {
			t.Fatalf("Mount: %d, with %q in sector %d", e, data, n)
		}
	}
}

// P4: Format of a disk that has a machine, with and without a transaction under way, gives an empty one.
func TestP4FormatAgain(t *testing.T) {
	for _, resumed := range []bool{false, true} {
		d := underWay(t)
		if resumed {
			mounted(t, d).Resume()
		}
		if e := Format(d); e != api.OK {
			t.Errorf("Format: %d", e)
		}
		h := mounted(t, d.Again(lasted))
		looks(t, h, "", "")
		if done, steps := h.Progress(); done != 0 || steps != 0 {
			t.Errorf("Progress() = %d, %d", done, steps)
		}
		begins(t, h, api.OK, tea())
		looks(t, h, "tea 1.0 2", "/bin/tea green; /var/log tea")
	}
}

// examples 2 to 4 of the document.
func TestP6Examples(t *testing.T) {
	h, d := fresh(t, 256)
	calls := d.Calls
	begins(t, h, api.OK, tea())
	if d.Calls-calls >= 3000 {
		t.Errorf("P7: %d calls", d.Calls-calls)
	}
	looks(t, h, "tea 1.0 2", "/bin/tea green; /var/log tea")
	looks(t, mounted(t, d.Again(lasted)), "tea 1.0 2", "/bin/tea green; /var/log tea")

	h, d = fresh(t, 256)
	h = mounted(t, cutAt(t, d, 1, 2, tea()))
	looks(t, h, "tea 1.0 1", "/bin/tea green")
	if e := h.Resume(); e != api.OK {
		t.Errorf("Resume: %d", e)
	}
	looks(t, h, "tea 1.0 2", "/bin/tea green; /var/log tea")

	h, _ = fresh(t, 256)
	begins(t, h, api.OK, tea(), menu())
	looks(t, h, "menu 1 2; tea 1.0 2", "/bin/tea green; /var/log tea; /var/menu /bin/tea\n")
}

// stepped does a transaction with the power going, and gives the machine as each step leaves it: packages, then the tree.
func stepped(t *testing.T, ahead [][]string, items ...string) []string {
	t.Helper()
	h, d := fresh(t, 1300)
	for _, before := range ahead {
		begins(t, h, api.OK, before...)
	}
	var out []string
	for left := 0; ; left++ {
		other := d.Clone()
		h := mounted(t, other)
		other.Left = left
		e := h.Begin(items)
		if e != api.OK && e != api.ErrGone {
			t.Fatalf("Begin(%.200q) = %d", items, e)
		}
		if e != api.OK {
			h = mounted(t, other.Again(lasted))
		}
		if _, steps := h.Progress(); e == api.OK || steps > 0 {
			out = append(out, hostText(h))
		}
		if e == api.OK {
			return slices.Compact(out)
		}
	}
}

func stepsAre(t *testing.T, got []string, want ...string) {
	t.Helper()
	if !slices.Equal(got, want) {
		t.Errorf("the steps leave\n%s\nwant\n%s", strings.Join(got, "\n"), strings.Join(want, "\n"))
	}
}

// P6: what is removed goes ahead of what is installed: first what no other one needs; in a ring the least name.
func TestP6RemoveOrder(t *testing.T) {
	needing := func(name string, needs ...string) string { return spec{name: name, version: "1", needs: needs}.item() }
	got := stepped(t, [][]string{{needing("a"), needing("b", "a", "b"), needing("c", "a"), needing("d", "b")}}, "-a", "-b", "-c", "-d", plain("aa"))
	stepsAre(t, got,
		"a 1 2; b 1 2; c 1 2; d 1 2; []", "a 1 2; b 1 2; d 1 2; []", "a 1 2; b 1 2; []", "a 1 2; []", "[]", "aa 1 1; []", "aa 1 2; []")
	got = stepped(t, [][]string{{needing("a", "c 1"), needing("b", "a"), needing("c", "b")}}, "-c", "-b", "-a")
	stepsAre(t, got, "a 1 2; b 1 2; c 1 2; []", "b 1 2; c 1 2; []", "b 1 2; []", "[]")
}

// P6: first what needs no other one that is installed too, by the new archives; in a ring the least name.
func TestP6InstallOrder(t *testing.T) {
	needing := func(name, version string, needs ...string) string {
		return spec{name: name, version: version, needs: needs}.item()
	}
	got := stepped(t, [][]string{{needing("a", "1"), needing("b", "1", "a")}}, needing("a", "2", "b 2"), needing("b", "2", "b", "d"), needing("c", "1", "b"), plain("d"))
	stepsAre(t, got, "a 1 2; b 1 2; []",
		"a 1 2; b 1 2; d 1 1; []", "a 1 2; b 2 1; d 1 1; []", "a 2 1; b 2 1; d 1 1; []", "a 2 1; b 2 1; c 1 1; d 1 1; []",
		"a 2 1; b 2 1; c 1 1; d 1 2; []", "a 2 1; b 2 2; c 1 1; d 1 2; []", "a 2 2; b 2 2; c 1 1; d 1 2; []", "a 2 2; b 2 2; c 1 2; d 1 2; []")
	got = stepped(t, nil, needing("c", "1", "a"), needing("a", "1", "b"), needing("b", "1", "c"))
	stepsAre(t, got, "[]", "a 1 1; []", "a 1 1; c 1 1; []", "a 1 1; b 1 1; c 1 1; []", "a 1 2; b 1 1; c 1 1; []", "a 1 2; b 1 1; c 1 2; []", "a 1 2; b 1 2; c 1 2; []")
}

// P6: the statuses of what is woken: one that stays, one that is replaced, one that is new.
func TestP6WokenStatus(t *testing.T) {
	waking := func(name, version string) string {
		return spec{name: name, version: version, wakes: []string{"/x"}, wokens: []string{"add /var/log " + name}}.item()
	}
	got := stepped(t, [][]string{{waking("a", "1"), waking("b", "1"), plain("q")}}, waking("b", "2"), waking("c", "1"), spec{name: "x", version: "1", files: file("/x", "")}.item())
	x, log := `{"/x" ""}`, `{"/var/log" `
	stepsAre(t, got, `a 1 3; b 1 3; q 1 2; []`,
		`a 1 3; b 2 1; q 1 2; []`, `a 1 3; b 2 1; c 1 1; q 1 2; []`, `a 1 3; b 2 1; c 1 1; q 1 2; x 1 1; [`+x+`]`,
		`a 1 3; b 2 3; c 1 1; q 1 2; x 1 1; [`+x+`]`, `a 1 3; b 2 3; c 1 3; q 1 2; x 1 1; [`+x+`]`, `a 1 3; b 2 3; c 1 3; q 1 2; x 1 2; [`+x+`]`,
		`a 1 2; b 2 3; c 1 3; q 1 2; x 1 2; [`+log+`"a"} `+x+`]`, `a 1 2; b 2 2; c 1 3; q 1 2; x 1 2; [`+log+`"ab"} `+x+`]`, `a 1 2; b 2 2; c 1 2; q 1 2; x 1 2; [`+log+`"abc"} `+x+`]`)
}

// P6: paths change of what is removed, of what is installed, of the old one; each is told once, in the order of bytes.
func TestP6WakingPaths(t *testing.T) {
	watch := spec{name: "watch", version: "1", wakes: []string{"/b", "/bin", "/z/y"}, wokens: []string{"list /var/l", "add /var/n x"}}
	h, _ := fresh(t, 600)
	begins(t, h, api.OK, watch.item(), spec{name: "idle", version: "1", wokens: []string{"put /var/idle x"}}.item())
	looks(t, h, "idle 1 2; watch 1 2", "")
	begins(t, h, api.OK, spec{name: "a", version: "1", files: []api.File{{Path: "/z/yy"}, {Path: "/bin/a"}, {Path: "/b.a"}, {Path: "/z/x"}, {Path: "/a/bin"}}}.item(),
		spec{name: "b", version: "1", files: file("/bin", "")}.item())
	looks(t, h, "a 1 2; b 1 2; idle 1 2; watch 1 2", "/a/bin ; /b.a ; /bin ; /bin/a ; /var/l /b.a\n/bin\n/bin/a\n/z/yy\n; /var/n x; /z/x ; /z/yy ")
	begins(t, h, api.OK, "-b", spec{name: "a", version: "2", files: []api.File{{Path: "/bin/a"}, {Path: "/bin/0"}}}.item())
	looks(t, h, "a 2 2; idle 1 2; watch 1 2", "/bin/0 ; /bin/a ; /var/l /b.a\n/bin\n/bin/0\n/bin/a\n/z/yy\n; /var/n xx")
	begins(t, h, api.OK, "-watch", "-a")
	looks(t, h, "idle 1 2", "/var/l /b.a\n/bin\n/bin/0\n/bin/a\n/z/yy\n; /var/n xx")
	// What only commands touch changes nobody's paths.
	begins(t, h, api.OK, spec{name: "v", version: "1", wakes: []string{"/var"}, runs: []string{"put /var/n y"}, wokens: []string{"drop /var/n"}}.item())
	looks(t, h, "idle 1 2; v 1 2", "/var/l /b.a\n/bin\n/bin/0\n/bin/a\n/z/yy\n; /var/n y")
}

// P6: what the commands do, at a file that is there and at one that is not.
func TestP6Commands(t *testing.T) {
	h, _ := fresh(t, 600)
	run := func(version string, commands ...string) {
		t.Helper()
		begins(t, h, api.OK, spec{name: "a", version: version, files: file("/f", "\x00\n \xff"), runs: commands}.item())
	}
	run("1", "put /var/b x", "put /var/b y", "add /var/b ~", "add /var/c !", "copy /var/none /var/b", "copy /none /var/d", "copy /f /var/e", "copy /var/e /var/e", "drop /var/none")
	looks(t, h, "a 1 2", "/f \x00\n \xff; /var/b y~; /var/c !; /var/e \x00\n \xff")
	run("2", "drop /var/b", "add /var/b z", "copy /var/c /var/e", "put /var/c q", "put /var/var/var x")
	looks(t, h, "a 2 2", "/f \x00\n \xff; /var/b z; /var/c q; /var/e !; /var/var/var x")
	// A copy's source may be another package's, unpacked by then; one that is removed is gone.
	begins(t, h, api.OK, "-a", spec{name: "b", version: "1", runs: []string{"copy /g /var/b", "copy /f /var/c"}}.item(), spec{name: "z", version: "1", files: file("/g", "new")}.item())
	looks(t, h, "b 1 2; z 1 2", "/g new; /var/b new; /var/c q; /var/e !; /var/var/var x")
}

// P9: between two steps two packages may have a file of one path: the later name's is there; then the other one's again.
func TestP9TwoOfOnePath(t *testing.T) {
	x := func(content string) []api.File { return file("/x", content) }
	got := stepped(t, [][]string{{spec{name: "b", version: "1", files: x("old")}.item()}}, spec{name: "a", version: "1", files: x("new")}.item(), spec{name: "b", version: "2"}.item())
	stepsAre(t, got, `b 1 2; [{"/x" "old"}]`, `a 1 1; b 1 2; [{"/x" "old"}]`, `a 1 1; b 2 1; [{"/x" "new"}]`, `a 1 2; b 2 1; [{"/x" "new"}]`, `a 1 2; b 2 2; [{"/x" "new"}]`)
	got = stepped(t, [][]string{{spec{name: "a", version: "1", files: x("old")}.item()}}, spec{name: "b", version: "1", files: x("new")}.item(), spec{name: "a", version: "2", needs: []string{"b"}}.item())
	stepsAre(t, got, `a 1 2; [{"/x" "old"}]`, `a 1 2; b 1 1; [{"/x" "new"}]`, `a 2 1; b 1 1; [{"/x" "new"}]`, `a 2 1; b 1 2; [{"/x" "new"}]`, `a 2 2; b 1 2; [{"/x" "new"}]`)
}

// P9: the orders are those of bytes.
func TestP9Order(t *testing.T) {
	h, _ := fresh(t, 600)
	begins(t, h, api.OK, plain("b"), plain("a-"), plain("ab"), plain("a"), plain("a0"),
		spec{name: "f", version: "1", files: []api.File{{Path: "/b"}, {Path: "/a/b"}, {Path: "/a.b"}, {Path: "/a-b"}, {Path: "/a0"}, {Path: "/a"}, {Path: "/w"}, {Path: "/var"}}, runs: []string{"put /var/x x"}}.item())
	looks(t, h, "a 1 2; a- 1 2; a0 1 2; ab 1 2; b 1 2; f 1 2", "/a ; /a-b ; /a.b ; /a/b ; /a0 ; /b ; /var ; /var/x x; /w ")
}

// P2: lists are new memory, spare room too, and what is handed in is not kept.
func TestP2Memory(t *testing.T) {
	h, _ := fresh(t, 300)
	lent := []byte(tea())
	items := []string{unsafe.String(&lent[0], len(lent)), menu()}
	begins(t, h, api.OK, items...)
	clear(lent)
	items[1] = ""
	for range 2 {
		looks(t, h, "menu 1 2; tea 1.0 2", "/bin/tea green; /var/log tea; /var/menu /bin/tea\n")
		packages, tree := h.Packages(), h.Tree()
		packages, tree = packages[:cap(packages)], tree[:cap(tree)]
		for i := range packages {
			packages[i] = api.Package{Name: "spoiled"}
		}
		for i := range tree {
			tree[i] = api.File{Path: "spoiled"}
		}
	}
	begins(t, h, api.OK, "-tea")
	looks(t, h, "menu 1 2", "/var/log tea; /var/menu /bin/tea\n")
}

// P2: the items stay as they are, whatever is answered; what is answered hangs on no order of theirs.
func TestP2Items(t *testing.T) {
	h, _ := fresh(t, 600)
	items := []string{tea(), menu(), plain("a"), "-q"}
	kept := slices.Clone(items)
	begins(t, h, api.ErrAbsent, items...)
	begins(t, h, api.OK, items[:3]...)
	if !slices.Equal(items, kept) {
		t.Errorf("the items have become %q", items)
	}
	other, _ := fresh(t, 600)
	begins(t, other, api.OK, plain("a"), menu(), tea())
	if !reflect.DeepEqual(h.Tree(), other.Tree()) || !reflect.DeepEqual(h.Packages(), other.Packages()) {
		t.Errorf("in another order there is %s, not %s", hostText(other), hostText(h))
	}
}

// P2: several goroutines at once: each call sees a whole transaction or none.
func TestP2AtOnce(t *testing.T) {
	h, _ := fresh(t, 1300)
	var all sync.WaitGroup
	for i := range 4 {
		all.Go(func() {
			name := string(rune('a' + i))
			item := spec{name: name, version: "1", files: file("/"+name, name), runs: []string{"put /var/" + name + " " + name}}.item()
			for range 30 {
				begins(t, h, api.OK, item)
				begins(t, h, api.OK, "-"+name)
			}
		})
		all.Go(func() {
			for range 200 {
				for _, p := range h.Packages() {
					if p.Status != api.Ready {
						t.Errorf("a status %d is seen", p.Status)
					}
				}
				h.Tree()
				if done, steps := h.Progress(); done != 0 || steps != 0 {
					t.Errorf("Progress() = %d, %d", done, steps)
				}
				if e := h.Resume(); e != api.OK {
					t.Errorf("Resume() = %d", e)
				}
			}
		})
	}
	all.Wait()
	looks(t, h, "", "/var/a a; /var/b b; /var/c c; /var/d d")
}

// P1: any items: each call ends with an answer of its own list.
func TestP1AnyItems(t *testing.T) {
	h, d := fresh(t, 600)
	begins(t, h, api.OK, tea(), menu())
	before, writes := hostText(h), d.Writes
	random := rand.New(rand.NewSource(4))
	for range 20000 {
		items := make([]string, random.Intn(8))
		for i := range items {
			b := []byte([]string{tea(), menu(), "-tea", "-menu", "-", "+", ""}[random.Intn(7)])
			for range random.Intn(3) {
				at := random.Intn(len(b) + 1)
				b = slices.Insert(b, at, byte(random.Intn(256)))
			}
			items[i] = string(b)
		}
		if h.Begin(items) == api.OK {
			h, d = fresh(t, 600)
			begins(t, h, api.OK, tea(), menu())
			writes = d.Writes
		}
		if hostText(h) != before || d.Writes != writes {
			t.Fatalf("Begin(%q) has changed something", items)
		}
	}
	begins(t, h, api.ErrItem, slices.Repeat([]string{"-tea"}, 1000000)...)
	begins(t, h, api.ErrItem, strings.Repeat("+", 10000000))
	begins(t, h, api.ErrItem, "-"+strings.Repeat("a", 10000000))
}

// what a disk answers is told through all layers.
func TestAnswer(t *testing.T) {
	wrapped := func(e api.Errno) error {
		return faults.Wrap("b", faults.Wrap("a", &faults.Fault{Call: "Read", Answer: e}))
	}
	if answer(nil) != api.OK || answer(wrapped(api.ErrIO)) != api.ErrIO || answer(wrapped(api.ErrGone)) != api.ErrGone || answer(errors.New("other")) != api.ErrIO {
		t.Error("answer")
	}
}
