package rack

import (
	"rack/api"
	"rack/arrange"
	"rack/drive"
	"rack/session"
)

// Login begins a session (P13).
func (r *Rack) Login(target string, host string) (int, api.Errno) {
	if r.dead {
		return 0, api.ErrPower
	}
	item, found := arrange.Find(r.items, arrange.Key{Kind: arrange.Host, Name: target, Host: host})
	if !found {
		return 0, api.ErrHost
	}
	// The caller's texts are not kept; those of the item are the rack's own.
	return r.sessions.Begin(item.Key.Name, item.Key.Host)
}

// Logout ends a session (P13).
func (r *Rack) Logout(s int) api.Errno {
	if r.dead {
		return api.ErrPower
	}
	if !r.sessions.Has(s) {
		return api.ErrSession
	}
	r.endSession(s)
	return api.OK
}

// List tells the numbers that a session sees (P15).
func (r *Rack) List(s int) ([]int, api.Errno) {
	met, err := r.meet(s)
	if err != api.OK {
		return nil, err
	}
	var numbers []int
	sorted := arrange.InOrder(r.items)
	for i := 0; i < len(sorted); i++ {
		key := sorted[i].Key
		if key.Kind == arrange.Map && key.Name == met.Target && key.Host == met.Host {
			numbers = append(numbers, key.Number)
		}
	}
	return numbers, api.OK
}

// Read tells what stands in a block (P16).
func (r *Rack) Read(s int, n int, block int) (int, api.Errno) {
	disk, _, err := r.see(s, n)
	if err != api.OK {
		return 0, err
	}
	return disk.Read(s, block)
}

// Write lays a value into a block (P16).
func (r *Rack) Write(s int, n int, block int, value int) api.Errno {
	disk, only, err := r.see(s, n)
	if err != api.OK {
		return err
	}
	if only {
		return api.ErrOnly
	}
	return disk.Write(s, block, value)
}

// Reserve keeps a disk for a session (P17).
func (r *Rack) Reserve(s int, n int) api.Errno {
	disk, _, err := r.see(s, n)
	if err != api.OK {
		return err
	}
	return disk.Reserve(s)
}

// Release gives it free again (P17).
func (r *Rack) Release(s int, n int) api.Errno {
	disk, _, err := r.see(s, n)
	if err != api.OK {
		return err
	}
	return disk.Release(s)
}

// meet answers a session, for a call that its news come ahead of.
func (r *Rack) meet(s int) (session.Session, api.Errno) {
	if r.dead {
		return session.Session{}, api.ErrPower
	}
	return r.sessions.Meet(s)
}

// see answers the disk that a session sees under a number, and whether it is there for reading alone (P16). What a map names is there, and what its lun names too; so nothing is lost by one error for all that might be missing.
func (r *Rack) see(s int, n int) (*drive.Drive, bool, api.Errno) {
	met, err := r.meet(s)
	if err != api.OK {
		return nil, false, err
	}
	seen, found := arrange.Find(r.items, arrange.Key{Kind: arrange.Map, Name: met.Target, Host: met.Host, Number: n})
	if !found {
		return nil, false, api.ErrLun
	}
	lun, found := arrange.Find(r.items, arrange.Key{Kind: arrange.Lun, Name: met.Target, Number: seen.Lun})
	if !found {
		return nil, false, api.ErrLun
	}
	disk := r.disks.Find(lun.Disk)
	if disk == nil {
		return nil, false, api.ErrLun
	}
	return disk, lun.Only, api.OK
}

// endSession ends a session; what it has reserved is free.
func (r *Rack) endSession(s int) {
	r.disks.Free(s)
	r.sessions.End(s)
}

// endSessions ends all sessions of a target and a host.
func (r *Rack) endSessions(target string, host string) {
	numbers := r.sessions.Of(target, host)
	for i := 0; i < len(numbers); i++ {
		r.endSession(numbers[i])
	}
}
