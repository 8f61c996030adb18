package rack

import (
	"rack/api"
	"rack/arrange"
	"rack/drive"
	"rack/plan"
	"rack/session"
	"rack/store"
)

// Rack is a rack that runs.
type Rack struct {
	dev      *api.Device
	items    []arrange.Item // what is there now
	disks    drive.Bank     // a drive for each disk that is there now
	sessions session.Table
	did      []plan.Step // what the plan under way has done, to be undone if it does not come to its end
	left     []plan.Step // what it has still to do; none, if no plan is under way
	dead     bool        // a call of the device has told that the power has gone
}

// Open begins a rack on a device (P7).
func Open(dev *api.Device) (*Rack, api.Errno) {
	text, err := store.Load(dev)
	if err != api.OK {
		return nil, err
	}
	// What racks have stored is an arrangement; from anything else no items come.
	items, _, _ := arrange.Parse(text)
	r := &Rack{dev: dev, items: items}
	for i := 0; i < len(items); i++ {
		if items[i].Key.Kind == arrange.Disk {
			r.disks.Add(items[i].Key.Name, items[i].Size)
		}
	}
	return r, api.OK
}

// Config tells the arrangement that is there (P8).
func (r *Rack) Config() (string, api.Errno) {
	if r.dead {
		return "", api.ErrPower
	}
	return arrange.Print(r.items), api.OK
}

// Start begins a plan (P9).
func (r *Rack) Start(text string) api.Errno {
	if r.dead {
		return api.ErrPower
	}
	if len(r.left) > 0 {
		return api.ErrBusy
	}
	// The steps hold parts of the text that they come from, and the caller's text is not kept.
	own := string([]byte(text))
	wanted, err, _ := arrange.Parse(own)
	if err != api.OK {
		return err
	}
	r.left = plan.Make(r.items, wanted)
	return api.OK
}

// Step does the plan's next step (P10).
func (r *Rack) Step(fail bool) (int, api.Errno) {
	if r.dead {
		return 0, api.ErrPower
	}
	if len(r.left) == 0 {
		return 0, api.ErrIdle
	}
	if fail {
		r.undo()
		return 0, api.ErrStep
	}
	next := r.left[0]
	r.do(next)
	r.did = append(r.did, next)
	r.left = r.left[1:]
	if len(r.left) > 0 {
		return len(r.left), api.OK
	}
	return 0, r.finish()
}

// Stop undoes the plan (P11).
func (r *Rack) Stop() api.Errno {
	if r.dead {
		return api.ErrPower
	}
	if len(r.left) == 0 {
		return api.ErrIdle
	}
	r.undo()
	return api.OK
}

// do does one step, with what it does to sessions, blocks and what is reserved (P14).
func (r *Rack) do(step plan.Step) {
	r.items = step.After(r.items)
	key := step.Item.Key
	switch key.Kind {
	case arrange.Disk:
		if step.Adds {
			r.disks.Add(key.Name, step.Item.Size)
		} else {
			r.disks.Remove(key.Name)
		}
	case arrange.Host:
		if !step.Adds {
			r.endSessions(key.Name, key.Host)
		}
	case arrange.Map:
		r.sessions.Tell(key.Name, key.Host)
	}
}

// undo does the opposites of what the plan has done, the last one first, and ends the plan.
func (r *Rack) undo() {
	for i := len(r.did) - 1; i >= 0; i-- {
		back := r.did[i].Opposite()
		r.do(back)
	}
	r.end()
}

// finish makes the plan's arrangement last, and ends the plan. Where the power goes, no call tells anything else any more, so nothing else is kept.
func (r *Rack) finish() api.Errno {
	text := arrange.Print(r.items)
	err := store.Save(r.dev, text)
	if err != api.OK {
		*r = Rack{dead: true}
		return err
	}
	r.end()
	return api.OK
}

// end: no plan is under way any more.
func (r *Rack) end() {
	r.did = nil
	r.left = nil
}
