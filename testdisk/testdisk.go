// Package testdisk: a disk for tests, whose calls may fail and whose power may go.
package testdisk

import (
	"maps"
	"slices"
	"strings"

	"haven/api"
)

// Disk holds what lasts, and of each sector what was written since the last Flush that was OK.
type Disk struct {
	lasting []string
	written map[int][]string

	// Calls and Writes count those that were asked for.
	Calls, Writes int
	// Left is how many calls are left until the power goes; below 0: it stays.
	Left int
	// Late lets a Write at which the power goes be done for all that.
	Late bool
	// Fails tells which calls answer ErrIO, if it is there.
	Fails func(call int) bool
}

// New gives a disk of noughts.
func New(sectors int) *Disk {
	d := &Disk{written: map[int][]string{}, Left: -1}
	for range sectors {
		d.lasting = append(d.lasting, strings.Repeat("\x00", api.Sector))
	}
	return d
}

// Sectors is part of api.Disk, as Read, Write and Flush are.
func (d *Disk) Sectors() int { return len(d.lasting) }

func (d *Disk) Read(n int) (string, api.Errno) {
	if answer := d.call(); answer != api.OK {
		return "", answer
	}
	return d.Now(n), api.OK
}

func (d *Disk) Write(n int, data string) api.Errno {
	if n < 0 || n >= len(d.lasting) || len(data) != api.Sector {
		panic("no sector, or data of another length")
	}
	d.Writes++
	isLast := d.Left == 0
	answer := d.call()
	if answer == api.OK || isLast && d.Late {
		d.written[n] = append(d.written[n], data)
	}
	return answer
}

func (d *Disk) Flush() api.Errno {
	answer := d.call()
	if answer == api.OK {
		for n := range d.written {
			d.lasting[n] = d.Now(n)
		}
		clear(d.written)
	}
	return answer
}

func (d *Disk) call() api.Errno {
	d.Calls++
	if d.Left == 0 {
		return api.ErrGone
	}
	d.Left = max(-1, d.Left-1)
	if d.Fails != nil && d.Fails(d.Calls) {
		return api.ErrIO
	}
	return api.OK
}

// Now gives a sector's bytes as a Read would.
func (d *Disk) Now(n int) string {
	if written := d.written[n]; len(written) > 0 {
		return written[len(written)-1]
	}
	return d.lasting[n]
}

// Clone gives a disk that is the same, with the power on and no call that fails.
func (d *Disk) Clone() *Disk {
	clone := &Disk{lasting: slices.Clone(d.lasting), written: map[int][]string{}, Left: -1}
	for n, written := range d.written {
		clone.written[n] = slices.Clone(written)
	}
	return clone
}

// Again gives the disk as it may be when the power is back: choose tells, of each sector that was written,
// which of so many states there is: 0 for what lasted, or a later one.
func (d *Disk) Again(choose func(states int) int) *Disk {
	again := &Disk{lasting: slices.Clone(d.lasting), written: map[int][]string{}, Left: -1}
	for _, n := range slices.Sorted(maps.Keys(d.written)) {
		states := append([]string{d.lasting[n]}, d.written[n]...)
		again.lasting[n] = states[choose(len(states))]
	}
	return again
}

// Spoil puts other bytes on the disk, without a call of it.
func (d *Disk) Spoil(n int, data string) {
	d.lasting[n] = data
	delete(d.written, n)
}
