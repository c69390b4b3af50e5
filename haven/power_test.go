package haven

import (
	"math/rand"
	"strconv"
	"sync"
	"testing"

	"haven/api"
	"haven/testdisk"
)

// mostRounds is how often a transaction may be cut off in a test: so many only if it is never over.
const mostRounds = 1000

func newest(states int) int { return states - 1 }

// deed is a transaction with steps of all kinds: old goes, a comes in its old one's place, b needs a, menu is woken. Each step leaves a trace in /var/log, so that one that is done twice is seen.
func deed(t *testing.T) (d *testdisk.Disk, before state, w wanted) {
	t.Helper()
	log := func(name string) []string { return []string{"add /var/log " + name} }
	bin := func(name string) []api.File { return file("/bin/"+name, name) }
	ahead := wanted{install: []spec{
		{name: "menu", version: "1", wakes: []string{"/bin"}, wokens: append(log("menu"), "list /var/menu")},
		{name: "old", version: "1", files: bin("old")},
		{name: "a", version: "1", files: bin("a")},
	}}
	w = wanted{remove: []string{"old"}, install: []spec{
		{name: "b", version: "1", needs: []string{"a 2"}, files: bin("b"), runs: log("b")},
		{name: "a", version: "2", files: bin("aa"), runs: log("a")},
	}}
	h, d := fresh(t, 300)
	begins(t, h, api.OK, ahead.items()...)
	states := state{}.states(ahead)
	before = states[len(states)-1]
	sees(t, h, before, 0, 0)
	return d, before, w
}

// P8: the power goes at each call of Begin, and again at each call of each Resume behind it.
func TestP8CutTwice(t *testing.T) {
	base, before, w := deed(t)
	states := before.states(w)
	m := maker{rand.New(rand.NewSource(5))}
	chooses := []func(int) int{lasted, newest, m.Intn}
	for first := 0; ; first++ {
		d := base.Clone()
		h := mounted(t, d)
		d.Left, d.Late = first, first%2 == 0
		if h.Begin(w.items()) == api.OK {
			break
		}
		for _, choose := range chooses {
			cut := d.Again(choose)
			at := place(t, mounted(t, cut), before, states)
			for second := 0; ; second++ {
				again := cut.Clone()
				h := mounted(t, again)
				again.Left, again.Late = second, second%2 == 0
				if e := h.Resume(); e == api.OK {
					break
				} else if e != api.ErrGone {
					t.Fatalf("P7: Resume answers %d when the power goes", e)
				}
				isLost(t, h)
				again = again.Again(choose)
				if now := place(t, mounted(t, again), before, states); now < at {
					t.Errorf("P8: %d steps were found, then %d", at, now)
				}
				settles(t, m, again, before, states)
			}
		}
	}
}

// place tells how many steps are done, by what a host tells: below 0, if the transaction is not under way and was not done.
func place(t *testing.T, h *Host, before state, states []state) int {
	t.Helper()
	done, steps := h.Progress()
	last := len(states) - 1
	switch {
	case steps > 0:
		if done >= last {
			t.Fatalf("P8: %d steps of %d are done, and it is not over", done, steps)
		}
		sees(t, h, states[done], done, last)
		return done
	case hostText(h) == states[last].text():
		sees(t, h, states[last], 0, 0)
		return last
	}
	sees(t, h, before, 0, 0)
	return -1
}

// P7, P8: each call of Begin in turn fails for good; what is found then stays, whether the power goes behind it or not.
func TestP8ModelFails(t *testing.T) {
	for seed := range 20 {
		m := maker{rand.New(rand.NewSource(int64(2000 + seed)))}
		h, d := fresh(t, 1300)
		var now state
		for range 12 {
			w := m.wanted()
			want, states := now.expected(w)
			if want == api.OK {
				callsFail(t, m, d, w.items(), now, states)
				now = states[len(states)-1]
			}
			begins(t, h, want, w.items()...)
		}
	}
}

func callsFail(t *testing.T, m maker, d *testdisk.Disk, items []string, before state, states []state) {
	t.Helper()
	for first := 1; ; first++ {
		now := d.Clone()
		h := mounted(t, now)
		failing(now, first, api.MaxTries+1)
		e := h.Begin(items)
		if e == api.OK {
			return
		}
		if e != api.ErrIO {
			t.Fatalf("P7: Begin answers %d when the disk fails", e)
		}
		isLost(t, h)
		now.Fails = nil
		at := place(t, mounted(t, now), before, states)
		for _, later := range []*testdisk.Disk{now, now.Again(lasted), now.Again(m.Intn)} {
			if found := settles(t, m, later.Clone(), before, states); found != at {
				t.Fatalf("P8: %d steps were found, then %d", at, found)
			}
		}
	}
}

// P8: what is found stays, however often the disk is mounted, with power that goes and comes between.
func TestP8MountedOften(t *testing.T) {
	d := underWay(t)
	random := rand.New(rand.NewSource(6))
	for round := range 100 {
		d.Left = random.Intn(6)
		h, e := Mount(d)
		if e != api.OK && e != api.ErrGone || (h == nil) != (e != api.OK) {
			t.Fatalf("P7: Mount: %v, %d", h, e)
		}
		d = d.Again(random.Intn)
		h = mounted(t, d)
		if done, steps := h.Progress(); done != 1 || steps != 2 {
			t.Fatalf("P8: at mount %d Progress() = %d, %d", round, done, steps)
		}
		looks(t, h, "menu 1 3", "/var/log tea; /var/menu /bin/tea\n")
	}
	if e := mounted(t, d).Resume(); e != api.OK {
		t.Errorf("P8: Resume: %d", e)
	}
	looks(t, mounted(t, d.Again(lasted)), "menu 1 2", "/var/log tea; /var/menu /bin/tea\n")
}

// P8: how many steps are done is told from the first to the last but one; with the last one it is over.
func TestP8Progress(t *testing.T) {
	d, before, w := deed(t)
	steps := len(before.states(w)) - 1
	for done := range steps {
		h := mounted(t, cutAt(t, d, done, steps, w.items()...))
		if e := h.Resume(); e != api.OK {
			t.Errorf("P8: Resume behind %d steps: %d", done, e)
		}
		looks(t, h, "a 2 2; b 1 2; menu 1 2", "/bin/aa aa; /bin/b b; /var/log menuabmenu; /var/menu /bin/a\n/bin/aa\n/bin/b\n/bin/old\n")
		if now, all := h.Progress(); now != 0 || all != 0 {
			t.Errorf("P8: behind Resume Progress() = %d, %d", now, all)
		}
	}
}

// P7: three failures ahead of each call that is OK are not seen, at any of the calls.
func TestP7ThreeFailures(t *testing.T) {
	slow := func(d *testdisk.Disk) {
		d.Calls, d.Fails = 0, func(call int) bool { return call%(api.MaxTries+1) != 0 }
	}
	d := underWay(t)
	slow(d)
	h := mounted(t, d)
	if e := h.Resume(); e != api.OK {
		t.Errorf("P7: Resume: %d", e)
	}
	looks(t, h, "menu 1 2", "/var/log tea; /var/menu /bin/tea\n")
	begins(t, h, api.OK, tea())
	looks(t, mounted(t, d), "menu 1 2; tea 1.0 2", "/bin/tea green; /var/log teatea; /var/menu /bin/tea\n")
	if e := Format(d); e != api.OK {
		t.Errorf("P7: Format: %d", e)
	}
	looks(t, mounted(t, d), "", "")
}

// P7: a power that goes while a call is tried again is told as that.
func TestP7GoneInTries(t *testing.T) {
	for tries := range api.MaxTries + 1 {
		h, d := fresh(t, 256)
		d.Fails = func(int) bool { return true }
		d.Left = tries
		begins(t, h, api.ErrGone, tea())
		isLost(t, h)
		if h, e := Mount(d); h != nil || e != api.ErrGone || Format(d) != api.ErrGone {
			t.Errorf("P7: Mount without power: %v, %d", h, e)
		}
	}
}

// P7: a Format that failed leaves no machine, one without packages, or the old one; the next one that is OK makes a new one.
func TestP7FormatFails(t *testing.T) {
	old, before, _ := deed(t)
	for _, base := range []*testdisk.Disk{testdisk.New(300), old} {
		for first := 1; ; first++ {
			d := base.Clone()
			failing(d, first, api.MaxTries+1)
			e := Format(d)
			if e == api.OK {
				break
			}
			if e != api.ErrIO {
				t.Fatalf("P7: Format: %d", e)
			}
			d.Fails = nil
			for _, later := range []*testdisk.Disk{d, d.Again(lasted), d.Again(newest)} {
				h, f := Mount(later)
				switch {
				case f == api.ErrNone && base != old:
				case f == api.OK && len(h.Packages()) == 0 && len(h.Tree()) == 0:
				case f == api.OK && base == old:
					sees(t, h, before, 0, 0)
				default:
					t.Errorf("P7: behind a Format that failed at call %d: %d", first, f)
				}
				if e := Format(later); e != api.OK {
					t.Errorf("P4: Format: %d", e)
				}
				begins(t, mounted(t, later.Again(lasted)), api.OK, tea())
			}
		}
	}
}

// P2, P7: of several goroutines one is told that the power has gone; those behind it find the host lost.
func TestP7LostAtOnce(t *testing.T) {
	for left := range 60 {
		h, d := fresh(t, 1300)
		d.Left = left
		var all sync.WaitGroup
		var mutex sync.Mutex
		answers := map[api.Errno]int{}
		for i := range 8 {
			all.Go(func() {
				e := h.Begin([]string{plain(string(rune('a' + i)))})
				mutex.Lock()
				defer mutex.Unlock()
				answers[e]++
			})
		}
		all.Wait()
		if answers[api.ErrGone] != 1 || answers[api.OK]+answers[api.ErrLost] != 7 {
			t.Fatalf("P7: with power for %d calls the answers are %v", left, answers)
		}
		isLost(t, h)
		if n := len(mounted(t, d.Again(lasted)).Packages()); n < answers[api.OK] {
			t.Errorf("P8: %d transactions were OK, and there are %d packages", answers[api.OK], n)
		}
	}
}

// P7: a call asks the disk no oftener than there is need for.
func TestP7Calls(t *testing.T) {
	h, d := fresh(t, 256)
	d.Calls = 0
	begins(t, h, api.OK, tea())
	if d.Calls >= 3000 {
		t.Errorf("%d calls of the disk for one Begin", d.Calls)
	}
	d.Calls = 0
	h.Progress()
	h.Packages()
	h.Tree()
	if d.Calls != 0 {
		t.Errorf("%d calls of the disk to tell what is there", d.Calls)
	}
}

// troubled lets calls of a disk fail, and its power go, at random; often so, that it gets through for all that.
func (m maker) troubled(d *testdisk.Disk) {
	d.Left, d.Late = m.Intn(80)-1, m.Intn(2) == 0
	odds := 3 + m.Intn(8)
	d.Fails = func(int) bool { return m.Intn(odds) < 2 }
}

// endures does a transaction on a disk in trouble until it is over, and gives that disk, and how often it was cut off.
func (m maker) endures(t *testing.T, d *testdisk.Disk, items []string, before state, states []state) (*testdisk.Disk, int) {
	t.Helper()
	found, cuts := -1, 0
	for range mostRounds {
		m.troubled(d)
		h, e := Mount(d)
		if e == api.OK {
			at := place(t, h, before, states)
			if at < found {
				t.Fatalf("P8: %d steps were found, then %d", found, at)
			}
			if found = at; found == len(states)-1 {
				return d, cuts
			}
			if found < 0 {
				e = h.Begin(items)
			} else {
				e = h.Resume()
			}
		}
		switch {
		case e == api.OK:
			found = len(states) - 1
			sees(t, h, states[found], 0, 0)
		case e != api.ErrIO && e != api.ErrGone:
			t.Fatalf("P7: on a disk in trouble: %d", e)
		case h != nil:
			isLost(t, h)
			cuts++
		}
		if e == api.ErrGone || m.Intn(2) == 0 {
			d = d.Again(m.Intn)
		}
	}
	t.Fatalf("P10: %d steps done, and it is never over", found)
	return nil, 0
}

// P10: transactions on a disk in trouble, each until it is over, leave what they leave where nothing happens between.
func TestP10HoweverOften(t *testing.T) {
	counts := map[string]int{}
	for seed := range 60 {
		m := maker{rand.New(rand.NewSource(int64(3000 + seed)))}
		calm, _ := fresh(t, 1300)
		_, rough := fresh(t, 1300)
		var now state
		for range 15 {
			w := m.wanted()
			want, states := now.expected(w)
			begins(t, calm, want, w.items()...)
			if want != api.OK {
				continue
			}
			var cuts int
			rough, cuts = m.endures(t, rough, w.items(), now, states)
			counts[strconv.Itoa(min(cuts, 3))]++
			now = states[len(states)-1]
			rough = rough.Again(m.Intn)
			if got, want := hostText(mounted(t, rough)), hostText(calm); got != want {
				t.Fatalf("seed %d: in the end there is\n%s, want\n%s", seed, got, want)
			}
		}
	}
	for _, cuts := range []string{"0", "1", "2", "3"} {
		if counts[cuts] < 10 {
			t.Errorf("transactions by how often they were cut off: %v", counts)
		}
	}
}
