package drive

// Bank is all drives of a rack.
type Bank struct {
	drives []*Drive
}

// Add puts a drive in: all its blocks are 0, and it is not reserved.
func (b *Bank) Add(name string, size int) {
	fresh := &Drive{name: name, holder: nobody}
	for i := 0; i < size; i++ {
		fresh.blocks = append(fresh.blocks, 0)
	}
	b.drives = append(b.drives, fresh)
}

// Remove takes a drive out, with all that is known of it.
func (b *Bank) Remove(name string) {
	var stay []*Drive
	for i := 0; i < len(b.drives); i++ {
		if b.drives[i].name != name {
			stay = append(stay, b.drives[i])
		}
	}
	b.drives = stay
}

// Find answers the drive with a name, or nil.
func (b *Bank) Find(name string) *Drive {
	for i := 0; i < len(b.drives); i++ {
		if b.drives[i].name == name {
			return b.drives[i]
		}
	}
	return nil
}

// Free gives free what a session has reserved.
func (b *Bank) Free(session int) {
	for i := 0; i < len(b.drives); i++ {
		if b.drives[i].holder == session {
			b.drives[i].holder = nobody
		}
	}
}
