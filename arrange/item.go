// Package arrange: arrangements, read from their text into items and told again.
package arrange

// The kinds of items, numbered as they stand in order.
const (
	Disk   = 0
	Target = 1
	Lun    = 2
	Host   = 3
	Map    = 4
)

// Key is what no two items of an arrangement share. What a kind's key does not have is empty or 0, so that one comparison serves all kinds.
type Key struct {
	Kind   int
	Name   string // of a disk or a target its own; of the others their target's
	Host   string // of a host or a map
	Number int    // of a lun or a map
}

// Item is one item of an arrangement.
type Item struct {
	Key  Key
	Size int    // the blocks of a disk
	Disk string // the disk of a lun
	Only bool   // whether a lun is for reading alone
	Lun  int    // the lun of a map
	Text string // the item as it stands in the arrangement; it has just one form, so equal items have equal texts
}

// same tells whether two keys are one.
func (k Key) same(other Key) bool {
	return k.Kind == other.Kind && k.Name == other.Name && k.Host == other.Host && k.Number == other.Number
}

// less tells whether an item with this key stands ahead of one with the other.
func (k Key) less(other Key) bool {
	if k.Kind != other.Kind {
		return k.Kind < other.Kind
	}
	if k.Name != other.Name {
		return k.Name < other.Name
	}
	if k.Host != other.Host {
		return k.Host < other.Host
	}
	return k.Number < other.Number
}

// Names answers the keys of the items that this one names.
func (it Item) Names() []Key {
	switch it.Key.Kind {
	case Lun:
		return []Key{{Kind: Target, Name: it.Key.Name}, {Kind: Disk, Name: it.Disk}}
	case Host:
		return []Key{{Kind: Target, Name: it.Key.Name}}
	case Map:
		return []Key{{Kind: Host, Name: it.Key.Name, Host: it.Key.Host}, {Kind: Lun, Name: it.Key.Name, Number: it.Lun}}
	}
	return nil
}
