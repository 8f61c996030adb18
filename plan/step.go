// Package plan: steps that turn one arrangement into another.
package plan

import (
	"rack/api"
	"rack/arrange"
)

// Step puts an item into an arrangement, or takes it out.
type Step struct {
	Adds bool
	Item arrange.Item
}

// Parse reads a step from its text; false, if the text is no step.
func Parse(text string) (Step, bool) {
	if len(text) == 0 || (text[0] != '+' && text[0] != '-') {
		return Step{}, false
	}
	it, formed := arrange.ParseItem(text[1:])
	if !formed {
		return Step{}, false
	}
	return Step{Adds: text[0] == '+', Item: it}, true
}

// Text tells a step.
func (s Step) Text() string {
	if s.Adds {
		return "+" + s.Item.Text
	}
	return "-" + s.Item.Text
}

// Texts tells steps, one behind the other.
func Texts(steps []Step) []string {
	var texts []string
	for i := 0; i < len(steps); i++ {
		text := steps[i].Text()
		texts = append(texts, text)
	}
	return texts
}

// Opposite answers the step that undoes this one.
func (s Step) Opposite() Step {
	return Step{Adds: !s.Adds, Item: s.Item}
}

// Do answers the items behind the step, as a fresh list; false, if it cannot be done on them (P6).
func (s Step) Do(items []arrange.Item) ([]arrange.Item, bool) {
	if !s.fits(items) {
		return nil, false
	}
	return s.After(items), true
}

// fits tells whether the step can be done on the items.
func (s Step) fits(items []arrange.Item) bool {
	if s.Adds {
		return canAdd(items, s.Item)
	}
	held := arrange.Holds(items, s.Item)
	return held && !arrange.Named(items, s.Item.Key)
}

// canAdd tells whether there is room for the item, and for its key, and all that it names is there.
func canAdd(items []arrange.Item, it arrange.Item) bool {
	size := arrange.Size(items) + len(it.Text)
	if len(items) >= api.MaxItems || size > api.MaxText {
		return false
	}
	taken := arrange.Has(items, it.Key)
	named := it.Names()
	return !taken && arrange.HasAll(items, named)
}

// After answers the items behind a step that is known to fit, as those of a plan do and their opposites: a fresh list.
func (s Step) After(items []arrange.Item) []arrange.Item {
	var after []arrange.Item
	for i := 0; i < len(items); i++ {
		if items[i].Text != s.Item.Text {
			after = append(after, items[i])
		}
	}
	if s.Adds {
		after = append(after, s.Item)
	}
	return after
}
