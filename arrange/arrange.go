package arrange

import "rack/api"

// Parse answers the items of a text as they stand in it. If it is no arrangement: the error, and the place or the number that goes with it (P3).
func Parse(text string) ([]Item, api.Errno, int) {
	if len(text) > api.MaxText {
		return nil, api.ErrLong, 0
	}
	items, place, formed := readAll(text)
	if !formed {
		return nil, api.ErrForm, place
	}
	twice := firstTwice(items)
	if twice < len(items) {
		return nil, api.ErrTwice, twice
	}
	lost := firstLost(items)
	if lost < len(items) {
		return nil, api.ErrRef, lost
	}
	return items, api.OK, 0
}

// ParseItem reads a text that is just one item; false, if it is none.
func ParseItem(text string) (Item, bool) {
	r := &reader{text: text}
	it := r.item()
	if r.bad || r.at < len(text) {
		return Item{}, false
	}
	return it, true
}

// Print tells the items in order, as one text (P4).
func Print(items []Item) string {
	sorted := InOrder(items)
	var text []byte
	for i := 0; i < len(sorted); i++ {
		text = append(text, sorted[i].Text...)
	}
	return string(text)
}

// readAll reads items up to the text's end; if that fails, it answers false and the place of the fault.
func readAll(text string) ([]Item, int, bool) {
	var items []Item
	r := &reader{text: text}
	for r.at < len(text) {
		if len(items) == api.MaxItems {
			return nil, r.at, false
		}
		it := r.item()
		if r.bad {
			return nil, r.at, false
		}
		items = append(items, it)
	}
	return items, 0, true
}

// firstTwice answers the number of the first item whose key an earlier one has, or how many items there are.
func firstTwice(items []Item) int {
	for i := 0; i < len(items); i++ {
		if Has(items[:i], items[i].Key) {
			return i
		}
	}
	return len(items)
}

// firstLost answers the number of the first item that names what is not there, or how many items there are.
func firstLost(items []Item) int {
	for i := 0; i < len(items); i++ {
		named := items[i].Names()
		if !HasAll(items, named) {
			return i
		}
	}
	return len(items)
}

// Find answers the item that has the key; false, if none has it.
func Find(items []Item, key Key) (Item, bool) {
	for i := 0; i < len(items); i++ {
		if items[i].Key.same(key) {
			return items[i], true
		}
	}
	return Item{}, false
}

// Has tells whether one of the items has the key.
func Has(items []Item, key Key) bool {
	_, found := Find(items, key)
	return found
}

// HasAll tells whether each of the keys is that of an item.
func HasAll(items []Item, keys []Key) bool {
	for i := 0; i < len(keys); i++ {
		if !Has(items, keys[i]) {
			return false
		}
	}
	return true
}

// Holds tells whether just this item is one of the items.
func Holds(items []Item, it Item) bool {
	for i := 0; i < len(items); i++ {
		if items[i].Text == it.Text {
			return true
		}
	}
	return false
}

// Named tells whether one of the items names what has the key.
func Named(items []Item, key Key) bool {
	for i := 0; i < len(items); i++ {
		named := items[i].Names()
		for k := 0; k < len(named); k++ {
			if named[k].same(key) {
				return true
			}
		}
	}
	return false
}

// Size answers how many bytes the items have as a text.
func Size(items []Item) int {
	size := 0
	for i := 0; i < len(items); i++ {
		size += len(items[i].Text)
	}
	return size
}

// InOrder answers the same items in order, as a fresh list.
func InOrder(items []Item) []Item {
	sorted := make([]Item, len(items))
	for i := 0; i < len(items); i++ {
		at := i
		for at > 0 && items[i].Key.less(sorted[at-1].Key) {
			sorted[at] = sorted[at-1]
			at--
		}
		sorted[at] = items[i]
	}
	return sorted
}
