// Package plan: steps that turn one arrangement into another.
package plan

import (
	"rack/api"
	"rack/arrange"
)

// Step puts an item into an arrangement, or takes it out.
type Step struct {
	Adds bool
	Item arrange.Item
}

// Parse reads a step from its text; false, if the text is no step.
func Parse(text string) (Step, bool) {
	if len(text) == 0 || (text[0] != '+' && text[0] != '-') {
		return Step{}, false
	}
	it, formed := arrange.ParseItem(text[1:])
	if !formed {
		return Step{}, false
	}
	return Step{Adds: text[0] == '+', Item: it}, true
}

// Text tells a step.
func (s Step) Text() string {
	if s.Adds {
		return "+" + s.Item.Text
	}
	return "-" + s.Item.Text
}

// Texts tells steps, one behind the other.
func Texts(steps []Step) []string {
	var texts []string
	for i := 0; i < len(steps); i++ {
		text := steps[i].Text()
		texts = append(texts, text)
	}
	return texts
}

// Do answers the items behind the step, as a fresh list; false, if it cannot be done on them (P6).
func (s Step) Do(items []arrange.Item) ([]arrange.Item, bool) {
	if s.Adds {
		return add(items, s.Item)
	}
	return remove(items, s.Item)
}

// add answers the items with one more, as a fresh list.
func add(items []arrange.Item, it arrange.Item) ([]arrange.Item, bool) {
	size := arrange.Size(items) + len(it.Text)
	if len(items) >= api.MaxItems || size > api.MaxText {
		return nil, false
	}
	taken := arrange.Has(items, it.Key)
	named := it.Names()
	if taken || !arrange.HasAll(items, named) {
		return nil, false
	}
	var after []arrange.Item
	after = append(after, items...)
	return append(after, it), true
}

// remove answers the items without one of them, as a fresh list.
func remove(items []arrange.Item, it arrange.Item) ([]arrange.Item, bool) {
	held := arrange.Holds(items, it)
	if !held || arrange.Named(items, it.Key) {
		return nil, false
	}
	var after []arrange.Item
	for i := 0; i < len(items); i++ {
		if items[i].Text != it.Text {
			after = append(after, items[i])
		}
	}
	return after, true
}
