package plan

import "rack/arrange"

// Make answers the steps from one arrangement to another (P5). What is taken out goes from the maps back to the disks, and what is put in comes from the disks on to the maps, so that at no time an item names what is not there.
func Make(from []arrange.Item, to []arrange.Item) []Step {
	stay, gone := split(from, to)
	var steps []Step
	for kind := arrange.Map; kind >= arrange.Disk; kind-- {
		for i := 0; i < len(gone); i++ {
			if gone[i].Key.Kind == kind {
				steps = append(steps, Step{Item: gone[i]})
			}
		}
	}
	wanted := arrange.InOrder(to)
	for i := 0; i < len(wanted); i++ {
		if !arrange.Holds(stay, wanted[i]) {
			steps = append(steps, Step{Adds: true, Item: wanted[i]})
		}
	}
	return steps
}

// split answers which items of from stay and which are gone, both in order. What an item names stands ahead of it in order, so one pass is enough to see that it goes with what it names.
func split(from []arrange.Item, to []arrange.Item) ([]arrange.Item, []arrange.Item) {
	var stay, gone []arrange.Item
	sorted := arrange.InOrder(from)
	for i := 0; i < len(sorted); i++ {
		wanted := arrange.Holds(to, sorted[i])
		named := sorted[i].Names()
		if wanted && arrange.HasAll(stay, named) {
			stay = append(stay, sorted[i])
		} else {
			gone = append(gone, sorted[i])
		}
	}
	return stay, gone
}
