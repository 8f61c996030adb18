package rack

import "rack/api"

// Login begins a session (P13).
func (r *Rack) Login(target string, host string) (int, api.Errno) { return 0, r.power() }

// Logout ends a session (P13).
func (r *Rack) Logout(s int) api.Errno { return r.power() }

// List tells the numbers that a session sees (P15).
func (r *Rack) List(s int) ([]int, api.Errno) { return nil, r.power() }

// Read tells what stands in a block (P16).
func (r *Rack) Read(s int, n int, block int) (int, api.Errno) { return 0, r.power() }

// Write lays a value into a block (P16).
func (r *Rack) Write(s int, n int, block int, value int) api.Errno { return r.power() }

// Reserve keeps a disk for a session (P17).
func (r *Rack) Reserve(s int, n int) api.Errno { return r.power() }

// Release gives it free again (P17).
func (r *Rack) Release(s int, n int) api.Errno { return r.power() }

// power answers ErrPower, if the power has gone; so far the calls of hosts tell no more than that.
func (r *Rack) power() api.Errno {
	if r.dead {
		return api.ErrPower
	}
	return api.OK
}
