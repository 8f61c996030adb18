// Package rack: disks that hosts reach over targets, and plans that turn one arrangement into another: see DOC.md.
package rack

import (
	"rack/api"
	"rack/arrange"
	"rack/plan"
)

// Check tells whether a text is an arrangement (P3).
func Check(text string) (api.Errno, int) {
	_, err, place := arrange.Parse(text)
	return err, place
}

// Print tells an arrangement in order (P4).
func Print(text string) (string, api.Errno) {
	items, err, _ := arrange.Parse(text)
	if err != api.OK {
		return "", err
	}
	return arrange.Print(items), api.OK
}

// Plan tells the steps from one arrangement to another (P5).
func Plan(from string, to string) ([]string, api.Errno) {
	old, err, _ := arrange.Parse(from)
	if err != api.OK {
		return nil, err
	}
	wanted, err, _ := arrange.Parse(to)
	if err != api.OK {
		return nil, err
	}
	steps := plan.Make(old, wanted)
	return plan.Texts(steps), api.OK
}

// Walk does steps on an arrangement (P6).
func Walk(from string, steps []string) (string, int, api.Errno) {
	items, err, _ := arrange.Parse(from)
	if err != api.OK {
		return "", 0, err
	}
	for i := 0; i < len(steps); i++ {
		step, formed := plan.Parse(steps[i])
		if !formed {
			return "", i, api.ErrStep
		}
		after, done := step.Do(items)
		if !done {
			return "", i, api.ErrStep
		}
		items = after
	}
	return arrange.Print(items), len(steps), api.OK
}

// Rack is a rack that runs.
type Rack struct{}

// Open begins a rack on a device (P7).
func Open(dev *api.Device) (*Rack, api.Errno) { return nil, api.OK }

// Config tells the arrangement that is there (P8).
func (r *Rack) Config() (string, api.Errno) { return "", api.OK }

// Start begins a plan (P9).
func (r *Rack) Start(text string) api.Errno { return api.OK }

// Step does the plan's next step (P10).
func (r *Rack) Step(fail bool) (int, api.Errno) { return 0, api.OK }

// Stop undoes the plan (P11).
func (r *Rack) Stop() api.Errno { return api.OK }

// Login begins a session (P13).
func (r *Rack) Login(target string, host string) (int, api.Errno) { return 0, api.OK }

// Logout ends a session (P13).
func (r *Rack) Logout(s int) api.Errno { return api.OK }

// List tells the numbers that a session sees (P15).
func (r *Rack) List(s int) ([]int, api.Errno) { return nil, api.OK }

// Read tells what stands in a block (P16).
func (r *Rack) Read(s int, n int, block int) (int, api.Errno) { return 0, api.OK }

// Write lays a value into a block (P16).
func (r *Rack) Write(s int, n int, block int, value int) api.Errno { return api.OK }

// Reserve keeps a disk for a session (P17).
func (r *Rack) Reserve(s int, n int) api.Errno { return api.OK }

// Release gives it free again (P17).
func (r *Rack) Release(s int, n int) api.Errno { return api.OK }
