// Package drive: disks as they run: what stands in their blocks, and which session has reserved them.
package drive

import "rack/api"

// nobody has no session's number, for these begin at 0.
const nobody = -1

// Drive is a disk as it runs.
type Drive struct {
	name   string
	blocks []int
	holder int // the session that has reserved it
}

// taken tells whether another session than this one has reserved the drive.
func (d *Drive) taken(session int) bool {
	return d.holder != nobody && d.holder != session
}

// has tells whether there is such a block.
func (d *Drive) has(block int) bool {
	return block >= 0 && block < len(d.blocks)
}

// Read tells a session what stands in a block (P16).
func (d *Drive) Read(session int, block int) (int, api.Errno) {
	if d.taken(session) {
		return 0, api.ErrReserved
	}
	if !d.has(block) {
		return 0, api.ErrBlock
	}
	return d.blocks[block], api.OK
}

// Write lays a session's value into a block (P16).
func (d *Drive) Write(session int, block int, value int) api.Errno {
	if d.taken(session) {
		return api.ErrReserved
	}
	if !d.has(block) {
		return api.ErrBlock
	}
	if value < 0 || value > api.MaxValue {
		return api.ErrArg
	}
	d.blocks[block] = value
	return api.OK
}

// Reserve keeps the drive for a session (P17).
func (d *Drive) Reserve(session int) api.Errno {
	if d.taken(session) {
		return api.ErrReserved
	}
	d.holder = session
	return api.OK
}

// Release gives the drive free (P17).
func (d *Drive) Release(session int) api.Errno {
	if d.taken(session) {
		return api.ErrReserved
	}
	d.holder = nobody
	return api.OK
}
