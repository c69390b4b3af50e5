// Package rules: which transactions may be.
package rules

import (
	"haven/api"
	"haven/archives"
	"haven/machine"
	"haven/plan"
	"haven/version"
	"haven/wish"
)

const (
	roomFactor    = 8
	sparedSectors = 32
)

type packages = map[string]machine.Package

// Check gives the plan of a transaction that may be, or why it may not. The machine stays as it is, and the plan shares no memory with the items.
func Check(m *machine.Machine, items []string, sectors int) (plan.Plan, api.Errno) {
	w, refusal := wish.Parse(items)
	if refusal != api.OK {
		return plan.Plan{}, refusal
	}
	refusal = refuse(m.Packages, w)
	if refusal != api.OK {
		return plan.Plan{}, refusal
	}
	p := plan.Make(m, w)
	switch {
	case overflowsVar(m, p):
		return plan.Plan{}, api.ErrVar
	case isTooSmall(sectors, m, items):
		return plan.Plan{}, api.ErrRoom
	}
	return p, api.OK
}

func refuse(there packages, w wish.Wish) api.Errno {
	toBe := w.ToBe(there)
	switch {
	case removesAbsent(there, w):
		return api.ErrAbsent
	case installsOld(there, w):
		return api.ErrOld
	case len(toBe) > api.MaxPackages:
		return api.ErrMany
	case lacksNeeded(toBe):
		return api.ErrNeeds
	case hasBroken(toBe):
		return api.ErrBreaks
	case clashes(toBe):
		return api.ErrClash
	}
	return api.OK
}

func removesAbsent(there packages, w wish.Wish) bool {
	for name := range w.Remove {
		if _, found := there[name]; !found {
			return true
		}
	}
	return false
}

func installsOld(there packages, w wish.Wish) bool {
	for name, p := range w.Install {
		if old, found := there[name]; found && compare(p.Archive.Version, old.Archive.Version) <= 0 {
			return true
		}
	}
	return false
}

// compare is of versions that stand in archives, so that both can be taken apart.
func compare(a, b string) int {
	versionA, _ := version.Parse(a)
	versionB, _ := version.Parse(b)
	return version.Compare(versionA, versionB)
}

func lacksNeeded(toBe packages) bool {
	for _, p := range toBe {
		for _, need := range p.Archive.Needs {
			if !meets(toBe, need) {
				return true
			}
		}
	}
	return false
}

func meets(toBe packages, need archives.Need) bool {
	p, found := toBe[need.Name]
	return found && (need.Version == "" || compare(p.Archive.Version, need.Version) >= 0)
}

func hasBroken(toBe packages) bool {
	for name, p := range toBe {
		for _, broken := range p.Archive.Breaks {
			if _, found := toBe[broken]; found && broken != name {
				return true
			}
		}
	}
	return false
}

func clashes(toBe packages) bool {
	paths := map[string]struct{}{}
	for _, p := range toBe {
		for _, f := range p.Archive.Files {
			if _, taken := paths[f.Path]; taken {
				return true
			}
			paths[f.Path] = struct{}{}
		}
	}
	return false
}

// overflowsVar tries the plan on a clone: what commands leave can't be told from the lines alone.
func overflowsVar(m *machine.Machine, p plan.Plan) bool {
	trial := m.Clone()
	for n := range p.Len() {
		p.Do(n, trial)
		if count, longest := trial.VarUse(); count > api.MaxVar || longest > api.MaxText {
			return true
		}
	}
	return false
}

func isTooSmall(sectors int, m *machine.Machine, items []string) bool {
	size := api.MaxVar * api.MaxText
	for _, p := range m.Packages {
		size = addSize(size, p.Text)
	}
	for _, item := range items {
		size = addSize(size, item)
	}
	return roomFactor*size > max(0, sectors-sparedSectors)*api.Sector
}

// addSize is bounded by what no disk can hold.
func addSize(size int, text string) int {
	return min(size+len(text), api.MaxSectors*api.Sector)
}
