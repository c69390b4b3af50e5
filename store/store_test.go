package store

import (
	"errors"
	"strconv"
	"strings"
	"testing"

	"haven/api"
	"haven/device"
	"haven/faults"
	"haven/testdisk"
)

func lasted(int) int { return 0 }

func last(states int) int { return states - 1 }

func opened(t *testing.T, d *testdisk.Disk) (*Store, Content) {
	t.Helper()
	s, content, err := Open(device.New(d))
	if err != nil {
		t.Fatal(err)
	}
	return s, content
}

func TestKept(t *testing.T) {
	d := testdisk.New(64)
	if _, _, err := Open(device.New(d)); !errors.Is(err, ErrNothing) {
		t.Errorf("on a disk of noughts: %v", err)
	}
	if err := Create(device.New(d)); err != nil {
		t.Fatal(err)
	}
	s, content := opened(t, d.Again(lasted))
	if content != (Content{}) || s.Sectors() != 64 {
		t.Errorf("a new store has %v, and %d sectors", content, s.Sectors())
	}
	s, _ = opened(t, d)
	for _, size := range []int{1, 255, 256, 257, 1000, 0, 31 * api.Sector, 31*api.Sector - 1} {
		text := strings.Repeat("\x00abc\n", size)[:size]
		for mark := range 3 {
			var err error
			if mark == 0 {
				err = s.Replace(text)
			} else {
				err = s.SetMark(mark * 7)
			}
			_, content := opened(t, d.Again(lasted))
			if err != nil || content != (Content{text, mark * 7}) {
				t.Errorf("%d bytes and %d: %.50q, %v", size, mark*7, content.Text, err)
			}
		}
	}
}

// TestPower: whenever the power goes, whatever of the sectors lasts, the old text and mark are there or the new ones.
func TestPower(t *testing.T) {
	base := testdisk.New(64)
	Create(device.New(base))
	s, _ := opened(t, base)
	old := Content{strings.Repeat("old ", 100), 5}
	if s.Replace(old.Text) != nil || s.SetMark(old.Mark) != nil {
		t.Fatal("the disk failed")
	}
	longer := strings.Repeat("new! ", 150)
	for name, change := range map[string]struct {
		do    func(*Store) error
		after Content
	}{
		"Replace": {func(s *Store) error { return s.Replace(longer) }, Content{longer, 0}},
		"SetMark": {func(s *Store) error { return s.SetMark(6) }, Content{old.Text, 6}},
		"Create":  {func(s *Store) error { return Create(s.device) }, Content{}},
	} {
		seen := map[Content]int{}
		for left := 0; ; left++ {
			d := base.Clone()
			s, _ := opened(t, d)
			d.Left, d.Late = left, left%2 == 0
			err := change.do(s)
			for subset := range 64 {
				bits := subset
				_, content := opened(t, d.Again(func(states int) int {
					bits /= 2
					return (bits % 2) * (states - 1)
				}))
				seen[content]++
				if content != old && content != change.after || err == nil && content != change.after {
					t.Fatalf("%s, power for %d calls: %.50q", name, left, content.Text)
				}
			}
			if err == nil {
				break
			}
			if !errors.Is(err, faults.ErrPower) {
				t.Fatalf("%s: %v", name, err)
			}
		}
		if len(seen) != 2 {
			t.Errorf("%s: %d contents were seen", name, len(seen))
		}
	}
}

// TestFoundLasts: what Open found is there when the power goes behind it, though nobody had flushed it.
func TestFoundLasts(t *testing.T) {
	d := testdisk.New(64)
	Create(device.New(d))
	s, _ := opened(t, d)
	if err := s.Replace("old"); err != nil {
		t.Fatal(err)
	}
	d.Fails = func(int) bool { return s.root.mark == 1 }
	if err := s.SetMark(1); err == nil {
		t.Fatal("a Flush that fails is not told")
	}
	d.Fails = nil
	for _, disk := range []*testdisk.Disk{d, d.Again(last)} {
		_, found := opened(t, disk)
		_, later := opened(t, disk.Again(lasted))
		if found != later || found.Mark != 1 {
			t.Errorf("found %v, later %v", found, later)
		}
	}
}

// TestNothing: roots that nobody wrote.
func TestNothing(t *testing.T) {
	good := rootOf(1, "text")
	for _, text := range []string{
		"", "\n", magic, magic + "\n", magic + "\n\n", magic + "\n0 0 0\n", magic + "\n0 0 0 \n", magic + "\n0 0 0 x y\n",
		strings.Replace(good.encode(), "1 4 0", "2 4 0", 1), strings.Replace(good.encode(), "1 4 0", "1 -4 0", 1), strings.Replace(good.encode(), "1 4 0", "1 +4 0", 1), strings.Replace(good.encode(), "1 4 0", "1 04 0", 1),
		strings.Replace(good.encode(), "1 4 0", "1 4 -1", 1), strings.Replace(good.encode(), "1 4 0", "1 3 0", 1), strings.Replace(good.encode(), "1 4 0", "1 9999 0", 1), strings.Replace(good.encode(), "1 4 0", "1 99999999999999999999 0", 1),
		// One byte more than a half of 64 sectors holds: the second half would end behind the disk.
		strings.Replace(good.encode(), "1 4 0", "1 "+strconv.Itoa(31*api.Sector+1)+" 0", 1),
		strings.Replace(good.encode(), "1 4 0", "0 4 0", 1), strings.TrimSuffix(good.encode(), "\n"), good.encode() + "x", " " + good.encode(), strings.ToUpper(good.encode()),
	} {
		d := testdisk.New(64)
		Create(device.New(d))
		s, _ := opened(t, d)
		if err := s.Replace("text"); err != nil {
			t.Fatal(err)
		}
		d.Spoil(rootSector, text+strings.Repeat("\x00", api.Sector-len(text)))
		if s, content, err := Open(device.New(d)); s != nil || content != (Content{}) || !errors.Is(err, ErrNothing) {
			t.Errorf("with the root %q: %v, %v", text, content, err)
		}
	}
}
