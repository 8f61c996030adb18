package rack_test

import (
	"fmt"
	"math/rand"
	"strings"
)

// one: the arrangement of the document's examples.
const one = "disk a 4;target x;lun x 1 a rw;host x h;map x h 0 1;"

// disks: n disks with four letters, 12 bytes each.
func disks(n int) string {
	s := ""
	for i := range n {
		s += "disk aaa" + letters[i:i+1] + " 1;"
	}
	return s
}

// broad: an arrangement of 22 items and 386 bytes.
func broad() string {
	s := "disk aaaa 9;target tttt;"
	for i := range 8 {
		s += fmt.Sprintf("lun tttt %d aaaa ro;", i)
	}
	s += "host tttt hhhh;"
	for i := range 8 {
		s += fmt.Sprintf("map tttt hhhh %d 7;", i)
	}
	return s + "host tttt kkkk;map tttt kkkk 0 7;map tttt kkkk 1 7;"
}

// longest: an arrangement of 400 bytes, in fewer than 24 items.
func longest() string { return broad() + "host tttt lll;" }

// tooLong: 401 bytes that are an arrangement but for their number.
func tooLong() string { return broad() + "host tttt llll;" }

// anyName: few names, so that they often meet; each length that a name may have.
func anyName(rnd *rand.Rand) string {
	names := []string{"a", "b", "ab", "aab", "aaab", "aaaa"}
	return names[rnd.Intn(len(names))]
}

func anyItem(rnd *rand.Rand) string {
	switch rnd.Intn(5) {
	case 0:
		return fmt.Sprintf("disk %s %d;", anyName(rnd), 1+rnd.Intn(9))
	case 1:
		return fmt.Sprintf("target %s;", anyName(rnd))
	case 2:
		return fmt.Sprintf("lun %s %d %s %s;", anyName(rnd), rnd.Intn(8), anyName(rnd), []string{"ro", "rw"}[rnd.Intn(2)])
	case 3:
		return fmt.Sprintf("host %s %s;", anyName(rnd), anyName(rnd))
	}
	return fmt.Sprintf("map %s %s %d %d;", anyName(rnd), anyName(rnd), rnd.Intn(8), rnd.Intn(8))
}

// anyItems: up to n items that have the form, and mostly no more than that.
func anyItems(rnd *rand.Rand, n int) string {
	s := ""
	for range rnd.Intn(n + 1) {
		s += anyItem(rnd)
	}
	return s
}

// anyArrangement: an arrangement with its items in any order; now and then one item is missing, so that others may name it in vain.
func anyArrangement(rnd *rand.Rand) string {
	var items []string
	keys := map[string]bool{}
	size := 0
	for range 50 + rnd.Intn(400) {
		item := anyItem(rnd)
		fits := !keys[oracleKey(item)] && len(items) < 24 && size+len(item) <= 400
		for _, name := range oracleNames(item) {
			fits = fits && keys[name]
		}
		if fits {
			items = append(items, item)
			keys[oracleKey(item)] = true
			size += len(item)
		}
	}
	rnd.Shuffle(len(items), func(i, j int) { items[i], items[j] = items[j], items[i] })
	if len(items) > 0 && rnd.Intn(4) == 0 {
		items = items[1:]
	}
	return strings.Join(items, "")
}

// spoil changes, drops or adds one byte of a text, or cuts the text.
func spoil(rnd *rand.Rand, s string) string {
	at := rnd.Intn(len(s) + 1)
	b := string([]byte{"adhlmrtowx019 ;-\x00\n\xff"[rnd.Intn(19)]})
	switch {
	case rnd.Intn(4) == 0:
		return s[:at]
	case rnd.Intn(3) == 0 || at == len(s):
		return s[:at] + b + s[at:]
	case rnd.Intn(2) == 0:
		return s[:at] + s[at+1:]
	}
	return s[:at] + b + s[at+1:]
}

func anyBytes(rnd *rand.Rand) string {
	b := make([]byte, rnd.Intn(450))
	for i := range b {
		b[i] = byte(rnd.Intn(256))
	}
	return string(b)
}

// manyTexts: texts of all sorts, the same ones at each run.
func manyTexts() []string {
	rnd := rand.New(rand.NewSource(7))
	texts := []string{"", one, longest(), tooLong(), disks(24), disks(25), strings.Repeat("d", 400), strings.Repeat("d", 100000)}
	for range 1000 {
		a := anyArrangement(rnd)
		texts = append(texts, a, spoil(rnd, a), anyItems(rnd, 6), anyItems(rnd, 30), spoil(rnd, anyItems(rnd, 30)), anyBytes(rnd))
	}
	return texts
}
