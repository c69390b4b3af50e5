package engine

import (
	"errors"
	"testing"

	"haven/api"
	"haven/faults"
	"haven/record"
	"haven/store"
	"haven/testdisk"
)

const item = "+haven 1\nname a\nversion 1\nrun add /var/a x\n\n"

func opened(t *testing.T, d api.Disk) *Engine {
	t.Helper()
	e, err := Open(d)
	if err != nil {
		t.Fatal(err)
	}
	return e
}

func formatted(t *testing.T) *testdisk.Disk {
	t.Helper()
	d := testdisk.New(256)
	if err := Format(d); err != nil {
		t.Fatal(err)
	}
	return d
}

func begin(e *Engine) error {
	_, err := e.Begin([]string{item})
	return err
}

// TestErrors: each layer that an error comes through has told it with its words, and what the disk answered is inside.
func TestErrors(t *testing.T) {
	for _, c := range []struct {
		after int
		words string
		do    func(d *testdisk.Disk, cut func()) error
	}{
		{0, "formatting: making a store: sector 0: the disk's Write answered ", func(d *testdisk.Disk, cut func()) error { cut(); return Format(d) }},
		{1, "formatting: making a store: the disk's Flush answered ", func(d *testdisk.Disk, cut func()) error { cut(); return Format(d) }},
		{0, "looking for a machine: opening the store: the disk's Flush answered ", func(d *testdisk.Disk, cut func()) error { cut(); _, err := Open(d); return err }},
		{1, "looking for a machine: reading the root: sector 0: the disk's Read answered ", func(d *testdisk.Disk, cut func()) error { cut(); _, err := Open(d); return err }},
		{0, "writing a transaction down: writing a text of 52 bytes: sector 128: the disk's Write answered ", func(d *testdisk.Disk, cut func()) error { e := opened(t, d); cut(); return begin(e) }},
		{2, "writing a transaction down: replacing the text: sector 0: the disk's Write answered ", func(d *testdisk.Disk, cut func()) error { e := opened(t, d); cut(); return begin(e) }},
		{5, "step 1 of 2: setting the mark to 1: the disk's Flush answered ", func(d *testdisk.Disk, cut func()) error { e := opened(t, d); cut(); return begin(e) }},
		{8, "step 2 of 2: replacing the text: sector 0: the disk's Write answered ", func(d *testdisk.Disk, cut func()) error { e := opened(t, d); cut(); return begin(e) }},
	} {
		gone, broken := formatted(t), formatted(t)
		tells(t, c.do(gone, func() { gone.Left = c.after }), c.words+"17: the power has gone", api.ErrGone)
		tells(t, c.do(broken, func() {
			from := broken.Calls + c.after
			broken.Fails = func(call int) bool { return call > from }
		}), c.words+"16", api.ErrIO)
	}
}

func tells(t *testing.T, err error, words string, answer api.Errno) {
	t.Helper()
	if err == nil || err.Error() != words {
		t.Errorf("the error is %v, want %s", err, words)
	}
	var fault *faults.Fault
	if !errors.As(err, &fault) || fault.Answer != answer || errors.Is(err, faults.ErrPower) != (answer == api.ErrGone) {
		t.Errorf("%v: of what the disk answered there is %v", err, fault)
	}
}

// TestNoMachine: a store that is whole, but has what no Begin has kept.
func TestNoMachine(t *testing.T) {
	begun := record.Record{Items: []string{item}}.Encode()
	for _, c := range []struct {
		text string
		mark int
	}{
		{"x", 0}, {"", 1}, {begun, 2}, {begun, 3},
		{record.Record{Archives: []string{"none"}}.Encode(), 0}, {record.Record{Files: []api.File{{Path: "/a"}}}.Encode(), 0},
		{record.Record{Items: []string{"-a"}}.Encode(), 0}, {record.Record{Items: []string{"x"}}.Encode(), 0},
	} {
		d := formatted(t)
		put(t, d, c.text, c.mark)
		if e, err := Open(d); e != nil || !errors.Is(err, store.ErrNothing) {
			t.Errorf("with %q and the mark %d there is %v, %v", c.text, c.mark, e, err)
		}
	}
	d := formatted(t)
	put(t, d, begun, 1)
	if done, steps := opened(t, d).Progress(); done != 1 || steps != 2 {
		t.Errorf("Progress() = %d, %d", done, steps)
	}
}

func put(t *testing.T, d *testdisk.Disk, text string, mark int) {
	t.Helper()
	s := opened(t, d).store
	if err := errors.Join(s.Replace(text), s.SetMark(mark)); err != nil {
		t.Fatal(err)
	}
}
