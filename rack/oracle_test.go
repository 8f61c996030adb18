package rack_test

import (
	"sort"
	"strings"

	"rack/api"
)

// The oracle answers by other means than the program. For Check it has each shape of an item as a row of byte classes and keeps all shapes that still fit, side by side.

// pattern: for each byte of an item, which bytes may stand there.
type pattern []string

const letters = "abcdefghijklmnopqrstuvwxyz"

// patterns are all shapes that an item can have.
var patterns = allPatterns()

func allPatterns() []pattern {
	var all []pattern
	for _, shape := range []string{"disk N S;", "target N;", "lun N D N M;", "host N N;", "map N N D D;"} {
		all = append(all, expand(shape)...)
	}
	return all
}

// expand makes the patterns of a shape: N is a name, S a size, D a number, M a mode.
func expand(shape string) []pattern {
	all := []pattern{nil}
	for _, c := range shape {
		var ways []pattern
		switch c {
		case 'N':
			for n := 1; n <= 4; n++ {
				var name pattern
				for range n {
					name = append(name, letters)
				}
				ways = append(ways, name)
			}
		case 'S':
			ways = []pattern{{"123456789"}}
		case 'D':
			ways = []pattern{{"01234567"}}
		case 'M':
			ways = []pattern{{"r", "ow"}}
		default:
			ways = []pattern{{string(c)}}
		}
		var longer []pattern
		for _, p := range all {
			for _, w := range ways {
				longer = append(longer, append(append(pattern{}, p...), w...))
			}
		}
		all = longer
	}
	return all
}

// goodItems: the items that fitted so far, for the patterns are slow.
var goodItems = map[string]bool{}

// oracleForm tells the place of the first byte that cannot stand there, or the text's length if it ends too early; -1 if there is no fault.
func oracleForm(text string) int {
	at := 0
	for items := 0; at < len(text); items++ {
		rest := text[at:]
		if end := strings.IndexByte(rest, ';'); end >= 0 {
			rest = rest[:end+1]
		}
		if items == 24 {
			return at
		}
		if fault := oracleItem(rest); fault >= 0 {
			return at + fault
		}
		at += len(rest)
	}
	return -1
}

// oracleItem tells the same of one item.
func oracleItem(text string) int {
	if goodItems[text] {
		return -1
	}
	fit := patterns
	for i := range len(text) {
		var still []pattern
		for _, p := range fit {
			if strings.IndexByte(p[i], text[i]) >= 0 {
				still = append(still, p)
			}
		}
		if len(still) == 0 {
			return i
		}
		fit = still
	}
	if len(fit[0]) > len(text) {
		return len(text)
	}
	goodItems[text] = true
	return -1
}

// oracleKey: the key of an item, as a text.
func oracleKey(item string) string {
	w := strings.Fields(strings.TrimSuffix(item, ";"))
	switch w[0] {
	case "lun", "host":
		return strings.Join(w[:3], " ")
	case "map":
		return strings.Join(w[:4], " ")
	}
	return strings.Join(w[:2], " ")
}

// oracleNames: the keys that an item names.
func oracleNames(item string) []string {
	w := strings.Fields(strings.TrimSuffix(item, ";"))
	switch w[0] {
	case "lun":
		return []string{"target " + w[1], "disk " + w[3]}
	case "host":
		return []string{"target " + w[1]}
	case "map":
		return []string{"host " + w[1] + " " + w[2], "lun " + w[1] + " " + w[4]}
	}
	return nil
}

// splitItems: the items of a text that has the form.
func splitItems(text string) []string {
	items := strings.SplitAfter(text, ";")
	return items[:len(items)-1]
}

func oracleCheck(text string) (api.Errno, int) {
	if len(text) > 400 {
		return api.ErrLong, 0
	}
	if at := oracleForm(text); at >= 0 {
		return api.ErrForm, at
	}
	items := splitItems(text)
	keys := map[string]bool{}
	for i, item := range items {
		if keys[oracleKey(item)] {
			return api.ErrTwice, i
		}
		keys[oracleKey(item)] = true
	}
	for i, item := range items {
		for _, name := range oracleNames(item) {
			if !keys[name] {
				return api.ErrRef, i
			}
		}
	}
	return api.OK, 0
}

func oraclePrint(text string) (string, api.Errno) {
	if e, _ := oracleCheck(text); e != api.OK {
		return "", e
	}
	rank := map[string]string{"disk": "0", "target": "1", "lun": "2", "host": "3", "map": "4"}
	items := splitItems(text)
	sort.Slice(items, func(i, j int) bool {
		a := strings.Fields(oracleKey(items[i]))
		b := strings.Fields(oracleKey(items[j]))
		a[0] = rank[a[0]]
		b[0] = rank[b[0]]
		for k := 0; k < len(a) && k < len(b); k++ {
			if a[k] != b[k] {
				return a[k] < b[k]
			}
		}
		return false
	})
	return strings.Join(items, ""), api.OK
}

// oracleKinds: the first words of the items, as they stand in order.
var oracleKinds = []string{"disk", "target", "lun", "host", "map"}

// oracleGone: the items of from that are gone. It goes by the document's words, round by round, until no more are found.
func oracleGone(from, to string) map[string]bool {
	wanted := map[string]bool{}
	for _, item := range splitItems(to) {
		wanted[item] = true
	}
	gone, goneKeys := map[string]bool{}, map[string]bool{}
	for grown := true; grown; {
		grown = false
		for _, item := range splitItems(from) {
			goes := !wanted[item]
			for _, name := range oracleNames(item) {
				goes = goes || goneKeys[name]
			}
			if goes && !gone[item] {
				gone[item], goneKeys[oracleKey(item)], grown = true, true, true
			}
		}
	}
	return gone
}

func oraclePlan(from, to string) ([]string, api.Errno) {
	first, e := oraclePrint(from)
	if e != api.OK {
		return nil, e
	}
	second, e := oraclePrint(to)
	if e != api.OK {
		return nil, e
	}
	gone := oracleGone(from, to)
	var steps []string
	for i := range oracleKinds {
		for _, item := range splitItems(first) {
			if strings.HasPrefix(item, oracleKinds[4-i]+" ") && gone[item] {
				steps = append(steps, "-"+item)
			}
		}
	}
	for _, item := range splitItems(second) {
		if gone[item] || !strings.Contains(";"+from, ";"+item) {
			steps = append(steps, "+"+item)
		}
	}
	return steps, api.OK
}

// oracleStep does a step on a text: what comes out must be an arrangement again, by Check. Nothing else is asked but that the item's text is there, for a `-`.
func oracleStep(text, step string) (string, bool) {
	if step == "" || oracleForm(step[1:]) >= 0 || strings.Count(step, ";") != 1 {
		return "", false
	}
	item := step[1:]
	switch step[0] {
	case '+':
		text += item
	case '-':
		at := strings.Index(";"+text, ";"+item)
		if at < 0 {
			return "", false
		}
		text = text[:at] + text[at+len(item):]
	default:
		return "", false
	}
	e, _ := oracleCheck(text)
	return text, e == api.OK
}

func oracleWalk(from string, steps []string) (string, int, api.Errno) {
	text, e := oraclePrint(from)
	if e != api.OK {
		return "", 0, e
	}
	for i, step := range steps {
		after, done := oracleStep(text, step)
		if !done {
			return "", i, api.ErrStep
		}
		text = after
	}
	text, _ = oraclePrint(text)
	return text, len(steps), api.OK
}
