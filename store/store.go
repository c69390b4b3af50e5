// Package store: keeps a text and a mark on a disk, so that after a power loss either the old ones or the new ones are there.
//
// Sector 0 is the root; the rest of the disk is two halves. A text is written to the half that is not in use, and lasts
// before the root tells of it: as a sector is written as a whole or not at all, so is what the root tells.
package store

import (
	"errors"
	"strconv"
	"strings"

	"haven/api"
	"haven/device"
	"haven/digest"
	"haven/faults"
)

const (
	rootSector = 0
	halves     = 2
)

// ErrNothing tells of a disk that no store was made on.
var ErrNothing = errors.New("nothing is stored")

// Content is what a store keeps.
type Content struct {
	Text string
	Mark int
}

// Store is a disk with a root.
type Store struct {
	device device.Device
	root   root
}

// Create makes a store of no text. It writes the root alone, so an older store stays whole until then.
func Create(d device.Device) error {
	s := Store{device: d}
	return faults.Wrap("making a store", s.switchTo(rootOf(0, "")))
}

// Open finds what is stored. What was written lasts before it is read: so what is found once stays.
func Open(d device.Device) (*Store, Content, error) {
	s := &Store{device: d}
	if err := d.Flush(); err != nil {
		return nil, Content{}, faults.Wrap("opening the store", err)
	}
	sector, err := d.Read(rootSector)
	if err != nil {
		return nil, Content{}, faults.Wrap("reading the root", err)
	}
	var found bool
	if s.root, found = decodeRoot(sector); !found || s.root.length > s.halfSectors()*api.Sector {
		return nil, Content{}, ErrNothing
	}
	text, err := s.readText()
	if err != nil {
		return nil, Content{}, faults.Wrap("reading the text", err)
	}
	if digest.Short(text) != s.root.hash {
		return nil, Content{}, ErrNothing
	}
	return s, Content{Text: text, Mark: s.root.mark}, nil
}

// Sectors tells how many sectors the disk has.
func (s *Store) Sectors() int { return s.device.Sectors() }

// Replace puts another text in the place of the one that is there; its mark is 0.
func (s *Store) Replace(text string) error {
	next := rootOf(halves-1-s.root.half, text)
	if err := s.writeText(next.half, text); err != nil {
		return faults.Wrap("writing a text of "+strconv.Itoa(len(text))+" bytes", err)
	}
	return faults.Wrap("replacing the text", s.switchTo(next))
}

// SetMark changes the mark alone.
func (s *Store) SetMark(mark int) error {
	next := s.root
	next.mark = mark
	return faults.Wrap("setting the mark to "+strconv.Itoa(mark), s.switchTo(next))
}

func (s *Store) switchTo(next root) error {
	if err := s.device.Write(rootSector, next.encode()); err != nil {
		return err
	}
	s.root = next
	return s.device.Flush()
}

func (s *Store) halfSectors() int { return (s.device.Sectors() - 1) / halves }

func (s *Store) firstSector(half int) int { return rootSector + 1 + half*s.halfSectors() }

func (s *Store) readText() (string, error) {
	var text strings.Builder
	for n := s.firstSector(s.root.half); text.Len() < s.root.length; n++ {
		sector, err := s.device.Read(n)
		if err != nil {
			return "", err
		}
		text.WriteString(sector[:min(len(sector), s.root.length-text.Len())])
	}
	return text.String(), nil
}

func (s *Store) writeText(half int, text string) error {
	for n := s.firstSector(half); text != ""; n++ {
		size := min(len(text), api.Sector)
		if err := s.device.Write(n, text[:size]); err != nil {
			return err
		}
		text = text[size:]
	}
	return s.device.Flush()
}
