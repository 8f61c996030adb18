// Package rack: disks that hosts reach over targets, and plans that turn one arrangement into another: see DOC.md.
package rack

import (
	"rack/api"
	"rack/arrange"
	"rack/plan"
)

// Check tells whether a text is an arrangement (P3).
func Check(text string) (api.Errno, int) {
	_, err, place := arrange.Parse(text)
	return err, place
}

// Print tells an arrangement in order (P4).
func Print(text string) (string, api.Errno) {
	items, err, _ := arrange.Parse(text)
	if err != api.OK {
		return "", err
	}
	return arrange.Print(items), api.OK
}

// Plan tells the steps from one arrangement to another (P5).
func Plan(from string, to string) ([]string, api.Errno) {
	old, err, _ := arrange.Parse(from)
	if err != api.OK {
		return nil, err
	}
	wanted, err, _ := arrange.Parse(to)
	if err != api.OK {
		return nil, err
	}
	steps := plan.Make(old, wanted)
	return plan.Texts(steps), api.OK
}

// Walk does steps on an arrangement (P6).
func Walk(from string, steps []string) (string, int, api.Errno) {
	items, err, _ := arrange.Parse(from)
	if err != api.OK {
		return "", 0, err
	}
	for i := 0; i < len(steps); i++ {
		step, formed := plan.Parse(steps[i])
		if !formed {
			return "", i, api.ErrStep
		}
		after, done := step.Do(items)
		if !done {
			return "", i, api.ErrStep
		}
		items = after
	}
	return arrange.Print(items), len(steps), api.OK
}
