// Package device: a disk whose calls are tried again when they fail.
package device

import (
	"strconv"
	"strings"

	"haven/api"
	"haven/faults"
)

// Device is a disk and the number of its sectors.
type Device struct {
	disk    api.Disk
	sectors int
}

// New takes a disk.
func New(d api.Disk) Device { return Device{disk: d, sectors: d.Sectors()} }

// Sectors tells how many sectors there are.
func (d Device) Sectors() int { return d.sectors }

// Read gives a sector's bytes.
func (d Device) Read(n int) (string, error) {
	var data string
	err := try("Read", func() api.Errno {
		var answer api.Errno
		data, answer = d.disk.Read(n)
		return answer
	})
	if err != nil {
		return "", faults.Wrap(sectorWords(n), err)
	}
	return data, nil
}

// Write writes a sector, filled up with noughts behind the text.
func (d Device) Write(n int, text string) error {
	data := text + strings.Repeat("\x00", api.Sector-len(text))
	err := try("Write", func() api.Errno { return d.disk.Write(n, data) })
	return faults.Wrap(sectorWords(n), err)
}

// Flush lets all last that was written.
func (d Device) Flush() error { return try("Flush", d.disk.Flush) }

func sectorWords(n int) string { return "sector " + strconv.Itoa(n) }

// try asks again only where the disk says that nothing has happened.
func try(call string, ask func() api.Errno) error {
	answer := ask()
	for tries := 0; answer == api.ErrIO && tries < api.MaxTries; tries++ {
		answer = ask()
	}
	if answer == api.OK {
		return nil
	}
	return &faults.Fault{Call: call, Answer: answer}
}
