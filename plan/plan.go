// Package plan: the steps of a transaction, and what each of them does.
package plan

import (
	"maps"
	"slices"
	"strings"

	"haven/api"
	"haven/machine"
	"haven/wish"
)

type kind int

const (
	remove kind = iota + 1
	unpack
	configure
	trigger
)

type step struct {
	kind kind
	name string
}

// Plan has the steps in their order, the packages that they install, and of each name that they trigger the paths that wake it.
type Plan struct {
	steps   []step
	install map[string]machine.Package
	waking  map[string][]string
}

// Make plans what is wished for on a machine.
func Make(m *machine.Machine, w wish.Wish) Plan {
	p := Plan{install: w.Install, waking: wakingPaths(w.ToBe(m.Packages), changedPaths(m, w))}
	leaving := map[string]machine.Package{}
	for name := range w.Remove {
		leaving[name] = m.Packages[name]
	}
	coming := order(w.Install, needsNoOther)
	p.add(remove, order(leaving, noOtherNeeds))
	p.add(unpack, coming)
	p.add(configure, coming)
	p.add(trigger, slices.Sorted(maps.Keys(p.waking)))
	return p
}

func (p *Plan) add(k kind, names []string) {
	for _, name := range names {
		p.steps = append(p.steps, step{kind: k, name: name})
	}
}

// changedPaths of packages that are removed or installed, or in whose place one comes: sorted, each once.
func changedPaths(m *machine.Machine, w wish.Wish) []string {
	changed := map[string]struct{}{}
	add := func(p machine.Package) {
		for _, f := range p.Archive.Files {
			changed[f.Path] = struct{}{}
		}
	}
	for name := range w.Remove {
		add(m.Packages[name])
	}
	for name, p := range w.Install {
		add(m.Packages[name])
		add(p)
	}
	return slices.Sorted(maps.Keys(changed))
}

// wakingPaths gives, of each package that is woken, the paths that wake it.
func wakingPaths(toBe map[string]machine.Package, changed []string) map[string][]string {
	waking := map[string][]string{}
	for name, p := range toBe {
		for _, path := range changed {
			if slices.ContainsFunc(p.Archive.Wakes, func(start string) bool { return strings.HasPrefix(path, start) }) {
				waking[name] = append(waking[name], path)
			}
		}
	}
	return waking
}

// Len tells how many steps there are.
func (p Plan) Len() int { return len(p.steps) }

// Start does what holds as soon as the plan is written down: what is to be triggered is woken.
func (p Plan) Start(m *machine.Machine) {
	for name := range p.waking {
		if m.Packages[name].Status == api.Ready {
			m.SetStatus(name, api.Woken)
		}
	}
}

// Do does a step; steps are counted from 0.
func (p Plan) Do(n int, m *machine.Machine) {
	name := p.steps[n].name
	switch p.steps[n].kind {
	case remove:
		delete(m.Packages, name)
	case unpack:
		m.Packages[name] = p.install[name]
	case configure:
		m.Run(m.Packages[name].Archive.Runs, nil)
		m.SetStatus(name, p.configured(name))
	case trigger:
		m.Run(m.Packages[name].Archive.Wokens, p.waking[name])
		m.SetStatus(name, api.Ready)
	}
}

func (p Plan) configured(name string) int {
	if _, woken := p.waking[name]; woken {
		return api.Woken
	}
	return api.Ready
}
