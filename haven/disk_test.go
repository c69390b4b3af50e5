package haven

import (
	"math/rand"
	"testing"

	"haven/api"
	"haven/testdisk"
)

// failing makes so many calls from one on answer ErrIO.
func failing(d *testdisk.Disk, first, count int) {
	from := d.Calls + first
	d.Fails = func(call int) bool { return call >= from && call < from+count }
}

// P7: what fails is tried again, three times more; a fourth failure is told, and the host is lost.
func TestP7Tries(t *testing.T) {
	h, d := fresh(t, 256)
	d.Fails = func(call int) bool { return call%(api.MaxTries+1) != 0 }
	d.Calls = 0
	begins(t, h, api.OK, tea())
	if _, e := Mount(d); e != api.OK || Format(d) != api.OK {
		t.Errorf("Mount: %d", e)
	}
	for first := 1; ; first++ {
		h, d := fresh(t, 256)
		failing(d, first, api.MaxTries+1)
		e := h.Begin([]string{tea()})
		if e == api.OK {
			break
		}
		if e != api.ErrIO {
			t.Fatalf("Begin, failing at call %d: %d", first, e)
		}
		isLost(t, h)
		d.Fails = nil
		ends(t, d, first)
	}
}

// ends mounts a disk that has failed in the midst of a Begin of tea: with the power on, and then gone.
func ends(t *testing.T, d *testdisk.Disk, first int) {
	t.Helper()
	done, steps := mounted(t, d).Progress()
	d = d.Again(lasted)
	h := mounted(t, d)
	if again, n := h.Progress(); again != done || n != steps {
		t.Errorf("P8: failing at call %d: %d, %d, later %d, %d", first, done, steps, again, n)
	}
	if e := h.Resume(); e != api.OK {
		t.Errorf("Resume: %d", e)
	}
	if len(h.Packages()) == 0 && steps == 0 {
		begins(t, h, api.OK, tea())
	}
	looks(t, h, "tea 1.0 2", "/bin/tea green; /var/log tea")
}

// P7: Resume, Mount and Format, failing or losing power at each of their calls.
func TestP7Others(t *testing.T) {
	calls := []struct {
		name string
		do   func(d *testdisk.Disk, cut func()) api.Errno
	}{
		{"Resume", func(d *testdisk.Disk, cut func()) api.Errno {
			h := mounted(t, d)
			cut()
			e := h.Resume()
			if e != api.OK {
				isLost(t, h)
			}
			return e
		}},
		{"Mount", func(d *testdisk.Disk, cut func()) api.Errno {
			cut()
			h, e := Mount(d)
			if (h == nil) != (e != api.OK) {
				t.Errorf("Mount: %v, %d", h, e)
			}
			return e
		}},
		{"Format", func(d *testdisk.Disk, cut func()) api.Errno {
			cut()
			return Format(d)
		}},
	}
	base := underWay(t)
	for _, c := range calls {
		for first := range 100 {
			gone, broken := base.Clone(), base.Clone()
			e := c.do(gone, func() { gone.Left = first })
			f := c.do(broken, func() { failing(broken, first+1, api.MaxTries+1) })
			if e == api.OK && f == api.OK {
				break
			}
			if e != api.ErrGone || f != api.ErrIO {
				t.Errorf("%s, at call %d: %d and %d", c.name, first, e, f)
			}
			broken.Fails = nil
			for _, d := range []*testdisk.Disk{gone.Again(lasted), gone.Again(rand.Intn), broken, broken.Again(lasted)} {
				h := mounted(t, d)
				if c.name == "Format" && len(h.Packages()) == 0 {
					continue
				}
				if e := h.Resume(); e != api.OK {
					t.Errorf("Resume: %d", e)
				}
				looks(t, h, "menu 1 2", "/var/log tea; /var/menu /bin/tea\n")
			}
		}
	}
}

// P7: a Format that was not OK leaves no machine, one without packages, or the old one.
func TestP7FormatNew(t *testing.T) {
	for left := range 100 {
		d := testdisk.New(64)
		d.Left = left
		e := Format(d)
		if e == api.OK {
			break
		}
		if h, f := Mount(d.Again(rand.Intn)); e != api.ErrGone || f == api.OK && len(h.Packages()) != 0 || f != api.OK && f != api.ErrNone {
			t.Errorf("Format: %d; then Mount: %d", e, f)
		}
	}
}

// P8: Resume, where nothing is under way, writes nothing.
func TestP8ResumeNothing(t *testing.T) {
	h, d := fresh(t, 256)
	begins(t, h, api.OK, tea())
	writes := d.Writes
	for range 3 {
		if e := h.Resume(); e != api.OK {
			t.Errorf("Resume: %d", e)
		}
	}
	if h = mounted(t, d); h.Resume() != api.OK || d.Writes != writes {
		t.Errorf("%d writes where nothing is under way", d.Writes-writes)
	}
}
