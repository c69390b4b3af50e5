package haven

import (
	"crypto/sha256"
	"encoding/hex"
	"fmt"
	"math/rand"
	"slices"
	"sort"
	"strconv"
	"strings"
	"testing"

	"haven/api"
	"haven/pack"
	"haven/testdisk"
)

// spec is a package as a test tells it.
type spec struct {
	name, version        string
	needs, breaks, wakes []string
	files                []api.File
	runs, wokens         []string
}

func (s spec) item() string {
	head, contents := "haven 1\nname "+s.name+"\nversion "+s.version+"\n", ""
	lines := func(word string, rest []string) {
		for _, r := range rest {
			head += word + " " + r + "\n"
		}
	}
	lines("needs", s.needs)
	lines("breaks", s.breaks)
	lines("wakes", s.wakes)
	for _, f := range s.files {
		sum := sha256.Sum256([]byte(f.Content))
		head += "file " + f.Path + " " + strconv.Itoa(len(f.Content)) + " " + hex.EncodeToString(sum[:8]) + "\n"
		contents += f.Content
	}
	lines("run", s.runs)
	lines("woken", s.wokens)
	return "+" + head + "\n" + contents
}

// entry is a package that is there, state a machine: the document's words done in the plainest way, to hold the program against.
type entry struct {
	spec
	status int
}

type state struct {
	packages []entry
	vars     []api.File
}

func (s state) clone() state {
	return state{slices.Clone(s.packages), slices.Clone(s.vars)}
}

func (s state) at(name string) int {
	return slices.IndexFunc(s.packages, func(e entry) bool { return e.name == name })
}

func (s *state) without(name string) {
	s.packages = slices.DeleteFunc(s.packages, func(e entry) bool { return e.name == name })
}

func (s *state) with(e entry) {
	s.without(e.name)
	s.packages = append(s.packages, e)
	sort.Slice(s.packages, func(i, j int) bool { return s.packages[i].name < s.packages[j].name })
}

func (s state) tree() []api.File {
	files := slices.Clone(s.vars)
	for _, e := range s.packages {
		for _, f := range e.files {
			files = slices.DeleteFunc(files, func(g api.File) bool { return g.Path == f.Path })
			files = append(files, f)
		}
	}
	sort.Slice(files, func(i, j int) bool { return files[i].Path < files[j].Path })
	return files
}

func (s state) text() string {
	text := ""
	for _, e := range s.packages {
		text += fmt.Sprint(e.name, " ", e.version, " ", e.status, "; ")
	}
	return text + fmt.Sprintf("%q", s.tree())
}

func (s *state) do(commands []string, waking []string) {
	for _, c := range commands {
		parts := strings.Split(c, " ")
		path := parts[1]
		content, there := "", false
		for _, f := range s.tree() {
			if f.Path == path {
				content, there = f.Content, true
			}
		}
		switch parts[0] {
		case "put":
			content, there = parts[2], true
		case "add":
			content, there = content+parts[2], true
		case "copy":
			path = parts[2]
			if !there {
				continue
			}
		case "drop":
			there = false
		case "list":
			content, there = strings.Join(append(slices.Clone(waking), ""), "\n"), true
		}
		s.vars = slices.DeleteFunc(s.vars, func(f api.File) bool { return f.Path == path })
		if there {
			s.vars = append(s.vars, api.File{Path: path, Content: content})
		}
	}
}

func (s state) hasRoomUnderVar() bool {
	long := slices.ContainsFunc(s.vars, func(f api.File) bool { return len(f.Content) > 200 })
	return len(s.vars) <= 16 && !long
}

// wanted is a transaction: names to remove, packages to install.
type wanted struct {
	remove  []string
	install []spec
}

func (w wanted) items() []string {
	var items []string
	for _, s := range w.install {
		items = append(items, s.item())
	}
	for _, name := range w.remove {
		items = append(items, "-"+name)
	}
	return items
}

// refusal by what is said of the packages alone; w names no name twice.
func (s state) refusal(w wanted) api.Errno {
	toBe := s.clone()
	for _, name := range w.remove {
		if s.at(name) < 0 {
			return api.ErrAbsent
		}
		toBe.without(name)
	}
	for _, p := range w.install {
		if i := s.at(p.name); i >= 0 && !above(p.version, s.packages[i].version) {
			return api.ErrOld
		}
		toBe.with(entry{p, 0})
	}
	switch {
	case len(toBe.packages) > 12:
		return api.ErrMany
	case toBe.lacks():
		return api.ErrNeeds
	case toBe.isBroken():
		return api.ErrBreaks
	case toBe.clashes():
		return api.ErrClash
	}
	return api.OK
}

func above(a, b string) bool {
	c, _ := pack.Compare(a, b)
	return c > 0
}

func (s state) lacks() bool {
	for _, e := range s.packages {
		for _, need := range e.needs {
			name, version, some := strings.Cut(need, " ")
			if i := s.at(name); i < 0 || some && above(version, s.packages[i].version) {
				return true
			}
		}
	}
	return false
}

func (s state) isBroken() bool {
	for _, e := range s.packages {
		for _, name := range e.breaks {
			if name != e.name && s.at(name) >= 0 {
				return true
			}
		}
	}
	return false
}

func (s state) clashes() bool {
	n := 0
	for _, e := range s.packages {
		n += len(e.files)
	}
	return n+len(s.vars) != len(s.tree())
}

// states behind no step, the first one, and so on, to the end.
func (s state) states(w wanted) []state {
	s = s.clone()
	var changed []string
	toBe := s.clone()
	note := func(p spec) {
		for _, f := range p.files {
			changed = append(changed, f.Path)
		}
	}
	var leaving []spec
	for _, name := range w.remove {
		leaving = append(leaving, s.packages[s.at(name)].spec)
		note(s.packages[s.at(name)].spec)
		toBe.without(name)
	}
	for _, p := range w.install {
		note(p)
		if i := s.at(p.name); i >= 0 {
			note(s.packages[i].spec)
		}
		toBe.with(entry{p, 0})
	}
	sort.Strings(changed)
	changed = slices.Compact(changed)
	waking := func(p spec) []string {
		var paths []string
		for _, path := range changed {
			if slices.ContainsFunc(p.wakes, func(w string) bool { return strings.HasPrefix(path, w) }) {
				paths = append(paths, path)
			}
		}
		return paths
	}
	var woken []spec
	for _, e := range toBe.packages {
		if len(waking(e.spec)) > 0 {
			woken = append(woken, e.spec)
			if i := s.at(e.name); i >= 0 {
				s.packages[i].status = 3
			}
		}
	}
	out := []state{s.clone()}
	step := func() { out = append(out, s.clone()) }
	for _, p := range inOrder(leaving, func(p, other spec) bool { return needsName(other, p.name) }) {
		s.without(p.name)
		step()
	}
	coming := inOrder(w.install, func(p, other spec) bool { return needsName(p, other.name) })
	for _, p := range coming {
		s.with(entry{p, 1})
		step()
	}
	for _, p := range coming {
		s.do(p.runs, nil)
		s.with(entry{p, 2})
		if len(waking(p)) > 0 {
			s.with(entry{p, 3})
		}
		step()
	}
	for _, p := range woken {
		s.do(p.wokens, waking(p))
		s.with(entry{p, 2})
		step()
	}
	return out
}

func needsName(p spec, name string) bool {
	return slices.ContainsFunc(p.needs, func(need string) bool { return strings.Split(need, " ")[0] == name })
}

// inOrder takes by turns the least one that no other one holds up; else the least.
func inOrder(packages []spec, heldUp func(p, other spec) bool) []spec {
	left := slices.Clone(packages)
	sort.Slice(left, func(i, j int) bool { return left[i].name < left[j].name })
	var out []spec
	for len(left) > 0 {
		next := 0
		for i, p := range left {
			free := true
			for j, other := range left {
				free = free && (i == j || !heldUp(p, other))
			}
			if free {
				next = i
				break
			}
		}
		out = append(out, left[next])
		left = slices.Delete(left, next, next+1)
	}
	return out
}

// maker makes transactions out of few names and paths, so that they meet.
type maker struct{ *rand.Rand }

func (m maker) of(words ...string) string { return words[m.Intn(len(words))] }

func (m maker) some(most int, make func() string) []string {
	var out []string
	for range m.Intn(most + 1) {
		out = append(out, make())
	}
	return out
}

func (m maker) name() string { return m.of("a", "b", "c", "d", "e", "f") }

func (m maker) seldom() int { return max(0, m.Intn(5)-3) }

func (m maker) varPath() string {
	return "/var/" + m.of("a", "b", "c", "d", "e", "f", "g", "h", "i", "j", "k", "l", "m", "n", "o", "p", "q", "r", "s", "t")
}

func (m maker) command() string {
	return m.of("put "+m.varPath()+" "+m.of("x", "yy"), "add "+m.varPath()+" 0123456789abcdef", "add /var/a "+m.of("0123456789abcdef", "-"),
		"copy "+m.of(m.filePath(), m.varPath())+" "+m.varPath(), "drop "+m.varPath())
}

func (m maker) filePath() string {
	return m.of("/b/", "/bin/", "/etc/", "/v") + m.of("x", "y", "z", "xy")
}

func (m maker) spec() spec {
	s := spec{name: m.name(), version: m.of("1", "1.0", "1.1", "2~", "2", "1:0", "3")}
	s.needs = m.some(m.seldom(), func() string { return m.of(m.name(), m.name()+" "+m.of("1", "1.1", "2")) })
	s.breaks = m.some(m.seldom(), m.name)
	s.wakes = m.some(2, func() string { return m.of("/b", "/bin", "/etc/x", "/v", "/none") })
	for _, path := range m.some(2, m.filePath) {
		if !slices.ContainsFunc(s.files, func(f api.File) bool { return f.Path == path }) {
			s.files = append(s.files, api.File{Path: path, Content: m.of("", s.name, "one\n\ntwo", strings.Repeat("long ", m.Intn(50)))})
		}
	}
	s.runs = m.some(6, m.command)
	s.wokens = m.some(3, func() string { return m.of(m.command(), "list "+m.varPath(), "add /var/log "+s.name) })
	return s
}

func (m maker) wanted() wanted {
	var w wanted
	var names []string
	for range 1 + m.Intn(4) {
		s := m.spec()
		if slices.Contains(names, s.name) {
			continue
		}
		names = append(names, s.name)
		if m.Intn(3) == 0 {
			w.remove = append(w.remove, s.name)
		} else {
			w.install = append(w.install, s)
		}
	}
	return w
}

// hostText tells a host as state.text tells a state.
func hostText(h *Host) string {
	text := ""
	for _, p := range h.Packages() {
		text += fmt.Sprint(p.Name, " ", p.Version, " ", p.Status, "; ")
	}
	return text + fmt.Sprintf("%q", h.Tree())
}

// sees holds a host against what is to be.
func sees(t *testing.T, h *Host, want state, done, steps int) {
	t.Helper()
	if got := hostText(h); got != want.text() {
		t.Fatalf("the machine is\n%s, want\n%s", got, want.text())
	}
	if d, n := h.Progress(); d != done || n != steps {
		t.Fatalf("Progress() = %d, %d, want %d, %d", d, n, done, steps)
	}
}

// expected is what a Begin answers, and the states behind its steps.
func (s state) expected(w wanted) (api.Errno, []state) {
	if refusal := s.refusal(w); refusal != api.OK {
		return refusal, nil
	}
	states := s.states(w)
	if slices.ContainsFunc(states[1:], func(s state) bool { return !s.hasRoomUnderVar() }) {
		return api.ErrVar, nil
	}
	return api.OK, states
}

// P5, P6, P9: many random transactions, one behind the other, against the model; and each machine is the same when it is mounted anew.
func TestP5P6P9Model(t *testing.T) {
	seen := map[api.Errno]int{}
	for seed := range 300 {
		m := maker{rand.New(rand.NewSource(int64(seed)))}
		h, d := fresh(t, 1300)
		var now state
		for range 40 {
			w := m.wanted()
			want, states := now.expected(w)
			seen[want]++
			if got := h.Begin(w.items()); got != want {
				t.Fatalf("seed %d: P5: Begin(%q) = %d, want %d", seed, w.items(), got, want)
			}
			if want == api.OK {
				now = states[len(states)-1]
			}
			sees(t, h, now, 0, 0)
		}
		sees(t, mounted(t, d.Again(lasted)), now, 0, 0)
	}
	for _, e := range []api.Errno{api.OK, api.ErrAbsent, api.ErrOld, api.ErrNeeds, api.ErrBreaks, api.ErrClash, api.ErrVar} {
		if seen[e] < 20 {
			t.Errorf("the answer %d came %d times only", e, seen[e])
		}
	}
}

// P6, P8: wherever the power goes, the states behind the steps are the model's, and what is left is done once.
func TestP6P8ModelPower(t *testing.T) {
	for seed := range 40 {
		m := maker{rand.New(rand.NewSource(int64(1000 + seed)))}
		h, d := fresh(t, 1300)
		var now state
		for range 12 {
			w := m.wanted()
			want, states := now.expected(w)
			if want == api.OK {
				powerGoes(t, m, d, w.items(), now, states)
				now = states[len(states)-1]
			}
			if got := h.Begin(w.items()); got != want {
				t.Fatalf("seed %d: Begin(%q) = %d, want %d", seed, w.items(), got, want)
			}
		}
	}
}

// powerGoes tries a transaction on clones of a disk, the power going at every call of it.
func powerGoes(t *testing.T, m maker, d *testdisk.Disk, items []string, before state, states []state) {
	t.Helper()
	reached := make([]int, len(states))
	for left, over := 0, false; !over; left++ {
		for _, late := range []bool{false, true} {
			now := d.Clone()
			h := mounted(t, now)
			now.Left, now.Late = left, late
			choose := lasted
			if late {
				choose = m.Intn
			}
			e := h.Begin(items)
			if over = e == api.OK; over {
				break
			}
			if e != api.ErrGone {
				t.Fatalf("P7: Begin answers %d when the power goes", e)
			}
			isLost(t, h)
			if found := settles(t, m, now.Again(choose), before, states); found >= 0 {
				reached[found]++
			}
		}
	}
	if i := slices.Index(reached[:len(reached)-1], 0); i >= 0 {
		t.Fatalf("P8: %d steps done of %d are never seen", i, len(states)-1)
	}
}

// settles mounts a disk whose power has gone, again and again, until the transaction is over; it gives how many steps were done at first (below 0: it was not begun).
func settles(t *testing.T, m maker, d *testdisk.Disk, before state, states []state) int {
	t.Helper()
	last, first := -1, -1
	for round := range mostRounds {
		h := mounted(t, d)
		done := place(t, h, before, states)
		if done < last {
			t.Fatalf("P8: %d steps done, and %d at a later mount", last, done)
		}
		last = done
		if round == 0 {
			first = done
		}
		if done < 0 || done == len(states)-1 {
			return first
		}
		if e := h.Begin([]string{"no item"}); e != api.ErrBusy {
			t.Fatalf("P5: Begin answers %d while a transaction is under way", e)
		}
		d.Left = m.Intn(20)
		if h.Resume() == api.OK {
			sees(t, h, states[len(states)-1], 0, 0)
		}
		d = d.Again(m.Intn)
	}
	t.Fatalf("P10: %d steps done, and it is never over", last)
	return 0
}
