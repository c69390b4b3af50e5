package device

import (
	"errors"
	"strings"
	"testing"

	"haven/api"
	"haven/faults"
	"haven/testdisk"
)

func calls(d Device) []func() error {
	return []func() error{
		func() error { _, err := d.Read(1); return err },
		func() error { return d.Write(2, "text") },
		d.Flush,
	}
}

// TestTries: MaxTries failures are got over, one more is told.
func TestTries(t *testing.T) {
	for failures := range api.MaxTries + 3 {
		disk := testdisk.New(64)
		for i, call := range calls(New(disk)) {
			disk.Calls = 0
			disk.Fails = func(call int) bool { return call <= failures }
			err := call()
			if want := min(failures, api.MaxTries) + 1; disk.Calls != want || (err == nil) != (failures <= api.MaxTries) {
				t.Errorf("call %d, %d failures: asked %d times, %v", i, failures, disk.Calls, err)
			}
			var fault *faults.Fault
			if err != nil && (!errors.As(err, &fault) || fault.Answer != api.ErrIO || errors.Is(err, faults.ErrPower)) {
				t.Errorf("call %d, %d failures: %v", i, failures, err)
			}
		}
	}
}

// TestPowerGoes: that is told at once.
func TestPowerGoes(t *testing.T) {
	disk := testdisk.New(64)
	disk.Left = 0
	for i, call := range calls(New(disk)) {
		disk.Calls = 0
		if err := call(); !errors.Is(err, faults.ErrPower) || disk.Calls != 1 {
			t.Errorf("call %d: asked %d times, %v", i, disk.Calls, err)
		}
	}
}

func TestSectors(t *testing.T) {
	disk := testdisk.New(65)
	d := New(disk)
	if d.Sectors() != 65 {
		t.Errorf("%d sectors", d.Sectors())
	}
	for _, text := range []string{"", "text", strings.Repeat("x", api.Sector)} {
		if err := d.Write(64, text); err != nil {
			t.Error(err)
		}
		data, err := d.Read(64)
		if err != nil || data != text+strings.Repeat("\x00", api.Sector-len(text)) {
			t.Errorf("written %q, read %q, %v", text, data, err)
		}
	}
}
