// Package engine: a machine on a disk, and the transaction that is under way on it.
//
// What is kept is the machine as it was ahead of the transaction, the items, and how many steps are done: what steps do
// hangs on these alone, so that they can be done again from there. The last step comes to last together with the end.
package engine

import (
	"strconv"

	"haven/api"
	"haven/device"
	"haven/faults"
	"haven/machine"
	"haven/plan"
	"haven/record"
	"haven/rules"
	"haven/store"
)

// Engine is the machine as the steps that are done have left it. A plan without steps: no transaction is under way.
type Engine struct {
	store   *store.Store
	machine *machine.Machine
	plan    plan.Plan
	done    int
}

// Format makes a machine without packages and files.
func Format(d api.Disk) error {
	return faults.Wrap("formatting", store.Create(device.New(d)))
}

// Open finds the machine on a disk.
func Open(d api.Disk) (*Engine, error) {
	s, content, err := store.Open(device.New(d))
	if err != nil {
		return nil, faults.Wrap("looking for a machine", err)
	}
	e := &Engine{store: s}
	if !e.restore(content) {
		return nil, faults.Wrap("looking for a machine", store.ErrNothing)
	}
	return e, nil
}

func (e *Engine) restore(content store.Content) bool {
	r, ok := record.Decode(content.Text)
	if !ok {
		return false
	}
	if e.machine, ok = machine.Restore(r); !ok {
		return false
	}
	if len(r.Items) == 0 {
		return content.Mark == 0
	}
	p, refusal := rules.Check(e.machine, r.Items, e.store.Sectors())
	if refusal != api.OK || content.Mark >= p.Len() {
		return false
	}
	e.start(p)
	for e.done < content.Mark {
		e.do()
	}
	return true
}

// UnderWay tells whether a transaction is.
func (e *Engine) UnderWay() bool { return e.plan.Len() > 0 }

// Progress tells how many steps are done, of how many.
func (e *Engine) Progress() (int, int) { return e.done, e.plan.Len() }

// Packages tells the packages.
func (e *Engine) Packages() []api.Package { return e.machine.List() }

// Tree tells all files.
func (e *Engine) Tree() []api.File { return e.machine.Tree() }

// Begin writes down a transaction that may be, and does it to the end. What may not be is told beside no error, and nothing is changed.
func (e *Engine) Begin(items []string) (api.Errno, error) {
	if e.UnderWay() {
		return api.ErrBusy, nil
	}
	p, refusal := rules.Check(e.machine, items, e.store.Sectors())
	if refusal != api.OK {
		return refusal, nil
	}
	r := e.machine.Record()
	r.Items = items
	if err := e.store.Replace(r.Encode()); err != nil {
		return api.OK, faults.Wrap("writing a transaction down", err)
	}
	e.start(p)
	return api.OK, e.Finish()
}

// Finish does the steps that are left.
func (e *Engine) Finish() error {
	for e.UnderWay() {
		words := "step " + strconv.Itoa(e.done+1) + " of " + strconv.Itoa(e.plan.Len())
		if err := e.step(); err != nil {
			return faults.Wrap(words, err)
		}
	}
	return nil
}

func (e *Engine) step() error {
	e.do()
	if e.done < e.plan.Len() {
		return e.store.SetMark(e.done)
	}
	e.plan, e.done = plan.Plan{}, 0
	return e.store.Replace(e.machine.Record().Encode())
}

func (e *Engine) start(p plan.Plan) {
	e.plan, e.done = p, 0
	p.Start(e.machine)
}

func (e *Engine) do() {
	e.plan.Do(e.done, e.machine)
	e.done++
}
