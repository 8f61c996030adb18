package arrange

import (
	"slices"
	"testing"

	"rack/api"
)

const text = "map x h 0 1;host x h;lun x 1 a rw;target x;disk a 4;"

func TestParseTellsItems(t *testing.T) {
	items, err, place := Parse(text)
	want := []Item{
		{Key: Key{Kind: Map, Name: "x", Host: "h", Number: 0}, Lun: 1, Text: "map x h 0 1;"},
		{Key: Key{Kind: Host, Name: "x", Host: "h"}, Text: "host x h;"},
		{Key: Key{Kind: Lun, Name: "x", Number: 1}, Disk: "a", Text: "lun x 1 a rw;"},
		{Key: Key{Kind: Target, Name: "x"}, Text: "target x;"},
		{Key: Key{Kind: Disk, Name: "a"}, Size: 4, Text: "disk a 4;"},
	}
	if err != api.OK || place != 0 || !slices.Equal(items, want) {
		t.Errorf("Parse = %v, %d, %d", items, err, place)
	}
}

func TestParseTellsNoItemsWithAnError(t *testing.T) {
	for _, bad := range []string{string(make([]byte, 401)), text + "?", text + "disk a 1;", text + "host y h;"} {
		if items, err, _ := Parse(bad); items != nil || err == api.OK {
			t.Errorf("Parse(%q) = %v, %d", bad, items, err)
		}
	}
}

// P2: the list that is handed in stays as it was.
func TestPrintLeavesItsList(t *testing.T) {
	items, _, _ := Parse(text)
	ahead := slices.Clone(items)
	if got := Print(items); got != "disk a 4;target x;lun x 1 a rw;host x h;map x h 0 1;" {
		t.Errorf("Print = %q", got)
	}
	if !slices.Equal(items, ahead) {
		t.Errorf("Print has changed its list to %v", items)
	}
}

func TestParseItem(t *testing.T) {
	it, formed := ParseItem("lun x 1 a rw;")
	if want := (Item{Key: Key{Kind: Lun, Name: "x", Number: 1}, Disk: "a", Text: "lun x 1 a rw;"}); !formed || it != want {
		t.Errorf("ParseItem = %v, %v", it, formed)
	}
	for _, bad := range []string{"", ";", "lun x 1 a rw", "lun x 1 a rw;;", "lun x 1 a rw;disk a 1;", " disk a 1;", "disk a 0;"} {
		if it, formed := ParseItem(bad); formed || it != (Item{}) {
			t.Errorf("ParseItem(%q) = %v, %v", bad, it, formed)
		}
	}
}

// Each size of a disk, and each mode of a lun.
func TestParseItemTellsSizeAndMode(t *testing.T) {
	for size := 1; size <= 9; size++ {
		if it, formed := ParseItem("disk a " + string(rune('0'+size)) + ";"); !formed || it.Size != size {
			t.Errorf("the size %d is told as %d, %v", size, it.Size, formed)
		}
	}
	for _, mode := range []string{"ro", "rw"} {
		if it, formed := ParseItem("lun x 1 a " + mode + ";"); !formed || it.Only != (mode == "ro") {
			t.Errorf("the mode %s is told as %v, %v", mode, it.Only, formed)
		}
	}
}

func TestFind(t *testing.T) {
	items, _, _ := Parse(text)
	for _, want := range items {
		if it, found := Find(items, want.Key); !found || it != want {
			t.Errorf("Find(%v) = %v, %v", want.Key, it, found)
		}
	}
	for _, key := range []Key{{Kind: Disk, Name: "b"}, {Kind: Target, Name: "a"}, {Kind: Host, Name: "h", Host: "x"}, {Kind: Map, Name: "x", Host: "h", Number: 1}, {Kind: Map, Name: "x", Host: "h", Number: -1}, {}} {
		if it, found := Find(items, key); found || it != (Item{}) {
			t.Errorf("Find(%v) = %v, %v", key, it, found)
		}
	}
}
