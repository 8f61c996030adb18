package rack_test

import (
	"fmt"
	"math/rand"
	"slices"
	"strconv"
	"strings"
	"testing"

	"rack/api"
)

// seat: a session of the model.
type seat struct {
	target, host string
	news         bool
}

// hall: sessions, blocks and what is reserved, by the document's words.
type hall struct {
	seats  map[int]*seat
	next   int
	blocks map[string]int // by disk and number, as "a 3"; what is not here is 0
	held   map[string]int // by disk: the session that has reserved it
}

func newHall() hall {
	return hall{seats: map[int]*seat{}, blocks: map[string]int{}, held: map[string]int{}}
}

// itemWords: the words of an item.
func itemWords(item string) []string { return strings.Fields(strings.TrimSuffix(item, ";")) }

// findItem: the words of the item of a text that begins with these words, or none.
func findItem(text string, begin ...string) []string {
	for _, item := range splitItems(text) {
		if words := itemWords(item); len(words) > len(begin)-1 && slices.Equal(words[:len(begin)], begin) {
			return words
		}
	}
	return nil
}

// turn: what the step that leads from one text to the next does to the hall (P14).
func (h *hall) turn(before, after string) {
	for _, item := range splitItems(before) {
		if !strings.Contains(";"+after, ";"+item) {
			h.did("-", itemWords(item))
		}
	}
	for _, item := range splitItems(after) {
		if !strings.Contains(";"+before, ";"+item) {
			h.did("+", itemWords(item))
		}
	}
}

func (h *hall) did(sign string, words []string) {
	switch sign + words[0] {
	case "-disk", "+disk":
		for place := range h.blocks {
			if strings.HasPrefix(place, words[1]+" ") {
				delete(h.blocks, place)
			}
		}
		delete(h.held, words[1])
	case "-host":
		for s, seat := range h.seats {
			if seat.target == words[1] && seat.host == words[2] {
				h.end(s)
			}
		}
	case "-map", "+map":
		for _, seat := range h.seats {
			seat.news = seat.news || (seat.target == words[1] && seat.host == words[2])
		}
	}
}

func (h *hall) end(s int) {
	delete(h.seats, s)
	for disk, by := range h.held {
		if by == s {
			delete(h.held, disk)
		}
	}
}

func (m *model) login(target, host string) (int, api.Errno) {
	if m.dead {
		return 0, api.ErrPower
	}
	if findItem(m.now, "host", target, host) == nil {
		return 0, api.ErrHost
	}
	if len(m.hall.seats) == 8 {
		return 0, api.ErrRoom
	}
	m.hall.seats[m.hall.next] = &seat{target: target, host: host}
	m.hall.next++
	return m.hall.next - 1, api.OK
}

func (m *model) logout(s int) api.Errno {
	if m.dead {
		return api.ErrPower
	}
	if m.hall.seats[s] == nil {
		return api.ErrSession
	}
	m.hall.end(s)
	return api.OK
}

func (m *model) meet(s int) (seat, api.Errno) {
	if m.dead {
		return seat{}, api.ErrPower
	}
	at := m.hall.seats[s]
	if at == nil {
		return seat{}, api.ErrSession
	}
	if at.news {
		at.news = false
		return seat{}, api.ErrChanged
	}
	return *at, api.OK
}

func (m *model) list(s int) ([]int, api.Errno) {
	at, err := m.meet(s)
	if err != api.OK {
		return nil, err
	}
	var list []int
	for n := range 8 {
		if findItem(m.now, "map", at.target, at.host, strconv.Itoa(n)) != nil {
			list = append(list, n)
		}
	}
	return list, api.OK
}

// see: the words of the lun that a session sees, and whether another one has reserved the disk.
func (m *model) see(s, n int) ([]string, bool, api.Errno) {
	at, err := m.meet(s)
	if err != api.OK {
		return nil, false, err
	}
	seen := findItem(m.now, "map", at.target, at.host, strconv.Itoa(n))
	if seen == nil {
		return nil, false, api.ErrLun
	}
	lun := findItem(m.now, "lun", at.target, seen[4])
	by, held := m.hall.held[lun[3]]
	return lun, held && by != s, api.OK
}

// hasBlock: whether a disk has a block.
func (m *model) hasBlock(disk string, block int) bool {
	size, _ := strconv.Atoi(findItem(m.now, "disk", disk)[2])
	return 0 <= block && block < size
}

func (m *model) read(s, n, block int) (int, api.Errno) {
	lun, taken, err := m.see(s, n)
	switch {
	case err != api.OK:
		return 0, err
	case taken:
		return 0, api.ErrReserved
	case !m.hasBlock(lun[3], block):
		return 0, api.ErrBlock
	}
	return m.hall.blocks[lun[3]+" "+strconv.Itoa(block)], api.OK
}

func (m *model) write(s, n, block, value int) api.Errno {
	lun, taken, err := m.see(s, n)
	switch {
	case err != api.OK:
		return err
	case lun[4] == "ro":
		return api.ErrOnly
	case taken:
		return api.ErrReserved
	case !m.hasBlock(lun[3], block):
		return api.ErrBlock
	case value < 0 || value > 255:
		return api.ErrArg
	}
	m.hall.blocks[lun[3]+" "+strconv.Itoa(block)] = value
	return api.OK
}

func (m *model) reserve(s, n int) api.Errno {
	lun, taken, err := m.see(s, n)
	if err == api.OK && taken {
		err = api.ErrReserved
	}
	if err == api.OK {
		m.hall.held[lun[3]] = s
	}
	return err
}

func (m *model) release(s, n int) api.Errno {
	lun, taken, err := m.see(s, n)
	if err == api.OK && taken {
		err = api.ErrReserved
	}
	if err == api.OK {
		delete(m.hall.held, lun[3])
	}
	return err
}

// hostNames: the calls of hosts, as the drill counts them.
var hostNames = []string{"Login", "Logout", "List", "Read", "Write", "Reserve", "Release"}

// same holds the answer of a host's call against the model's; the device must not have been called.
func (d *drill) same(call int, args string, err api.Errno, got, want string, gone bool) {
	d.t.Helper()
	d.note("%s(%s) = %s", hostNames[call], args, got)
	d.told[call][err]++
	if got != want {
		d.fail("P13 to P17: %s(%s) = %s, want %s", hostNames[call], args, got, want)
	}
	if d.dev.Dead() != gone {
		d.fail("P12: %s has called the device", hostNames[call])
	}
}

func (d *drill) login(target, host string) {
	d.t.Helper()
	gone := d.dev.Dead()
	n, err := d.r.Login(target, host)
	want, wantErr := d.m.login(target, host)
	d.same(0, fmt.Sprintf("%.50q, %.50q", target, host), err, fmt.Sprint(n, err), fmt.Sprint(want, wantErr), gone)
}

func (d *drill) logout(s int) {
	d.t.Helper()
	gone := d.dev.Dead()
	err := d.r.Logout(s)
	d.same(1, fmt.Sprint(s), err, fmt.Sprint(err), fmt.Sprint(d.m.logout(s)), gone)
}

// list: the list is the caller's, and is spoilt here, with its spare room.
func (d *drill) list(s int) {
	d.t.Helper()
	gone := d.dev.Dead()
	list, err := d.r.List(s)
	want, wantErr := d.m.list(s)
	got := fmt.Sprint(list, err)
	for i := range list[:cap(list)] {
		list[:cap(list)][i] = -5
	}
	d.same(2, fmt.Sprint(s), err, got, fmt.Sprint(want, wantErr), gone)
}

func (d *drill) read(s, n, block int) {
	d.t.Helper()
	gone := d.dev.Dead()
	value, err := d.r.Read(s, n, block)
	want, wantErr := d.m.read(s, n, block)
	d.same(3, fmt.Sprintf("%d, %d, %d", s, n, block), err, fmt.Sprint(value, err), fmt.Sprint(want, wantErr), gone)
}

func (d *drill) write(s, n, block, value int) {
	d.t.Helper()
	gone := d.dev.Dead()
	err := d.r.Write(s, n, block, value)
	d.same(4, fmt.Sprintf("%d, %d, %d, %d", s, n, block, value), err, fmt.Sprint(err), fmt.Sprint(d.m.write(s, n, block, value)), gone)
}

func (d *drill) reserve(s, n int) {
	d.t.Helper()
	gone := d.dev.Dead()
	err := d.r.Reserve(s, n)
	d.same(5, fmt.Sprintf("%d, %d", s, n), err, fmt.Sprint(err), fmt.Sprint(d.m.reserve(s, n)), gone)
}

func (d *drill) release(s, n int) {
	d.t.Helper()
	gone := d.dev.Dead()
	err := d.r.Release(s, n)
	d.same(6, fmt.Sprintf("%d, %d", s, n), err, fmt.Sprint(err), fmt.Sprint(d.m.release(s, n)), gone)
}

// most: the greatest number.
const most = 1<<63 - 1

// wrongNumbers: those at the bounds of all that is counted, and beyond them.
var wrongNumbers = []int{-most - 1, -most, -256, -9, -2, -1, 8, 9, 10, 255, 256, 1 << 31, 1 << 32, 1<<32 + 1, most - 1, most}

// either: mostly a number of the list, if it has one, else one below end, or a wrong one.
func either(rnd *rand.Rand, list []int, end int) int {
	switch {
	case len(list) > 0 && rnd.Intn(8) > 0:
		return list[rnd.Intn(len(list))]
	case rnd.Intn(4) == 0:
		return wrongNumbers[rnd.Intn(len(wrongNumbers))]
	}
	return rnd.Intn(end)
}

// someSession: mostly one that there is, now and then one that has ended or comes next, or any number.
func (d *drill) someSession(rnd *rand.Rand) int {
	var open []int
	for s := range d.m.hall.seats {
		open = append(open, s)
	}
	slices.Sort(open)
	return either(rnd, open, d.m.hall.next+1)
}

// someNumber: mostly one that the session sees.
func (d *drill) someNumber(rnd *rand.Rand, s int) int {
	var seen []int
	for n := range 8 {
		if at := d.m.hall.seats[s]; at != nil && findItem(d.m.now, "map", at.target, at.host, strconv.Itoa(n)) != nil {
			seen = append(seen, n)
		}
	}
	return either(rnd, seen, 8)
}

// someHost: mostly a target and a host that may use it, if there are any.
func (d *drill) someHost(rnd *rand.Rand) (string, string) {
	var hosts [][]string
	for _, item := range splitItems(d.m.now) {
		if words := itemWords(item); words[0] == "host" {
			hosts = append(hosts, words)
		}
	}
	if len(hosts) > 0 && rnd.Intn(6) > 0 {
		words := hosts[rnd.Intn(len(hosts))]
		return words[1], words[2]
	}
	return []string{"x", "y", "z"}[rnd.Intn(9)/4], []string{"h", "k", "x h", ""}[rnd.Intn(10)/3]
}

// hostCall makes one call of a host.
func (d *drill) hostCall(rnd *rand.Rand) {
	d.t.Helper()
	s := d.someSession(rnd)
	n := d.someNumber(rnd, s)
	switch rnd.Intn(24) {
	case 0, 1, 2, 3:
		d.login(d.someHost(rnd))
	case 4:
		d.logout(s)
	case 5, 6, 7:
		d.list(s)
	case 8, 9, 10, 11, 12, 13:
		d.read(s, n, either(rnd, []int{0, 1}, 6))
	case 14, 15, 16, 17, 18, 19:
		d.write(s, n, either(rnd, []int{0, 1}, 6), either(rnd, []int{0, 1, 77, 254, 255}, 256))
	case 20, 21:
		d.reserve(s, n)
	default:
		d.release(s, n)
	}
}

// denseItem: an item out of few, so that hosts often see disks.
func denseItem(rnd *rand.Rand) string {
	disk, target, host := []string{"a", "b"}[rnd.Intn(2)], []string{"x", "y"}[rnd.Intn(2)], []string{"h", "k"}[rnd.Intn(2)]
	switch rnd.Intn(12) {
	case 0:
		return fmt.Sprintf("disk %s %d;", disk, 1+rnd.Intn(6))
	case 1:
		return fmt.Sprintf("target %s;", target)
	case 2, 3, 4:
		return fmt.Sprintf("lun %s %d %s %s;", target, rnd.Intn(3), disk, []string{"ro", "rw", "rw"}[rnd.Intn(3)])
	case 5, 6:
		return fmt.Sprintf("host %s %s;", target, host)
	}
	return fmt.Sprintf("map %s %s %d %d;", target, host, rnd.Intn(4), rnd.Intn(3))
}

// denseText: an arrangement near to another one, in which hosts often see disks.
func denseText(rnd *rand.Rand, now string) string {
	items := splitItems(now)
	fresh := 1 + rnd.Intn(5)
	if len(items) < 8 || rnd.Intn(40) == 0 {
		items, fresh = nil, 80
	}
	for range rnd.Intn(3) {
		if len(items) > 0 {
			at := rnd.Intn(len(items))
			items = slices.Delete(items, at, at+1)
		}
	}
	for range fresh {
		items = append(items, denseItem(rnd))
	}
	rnd.Shuffle(len(items), func(i, j int) { items[i], items[j] = items[j], items[i] })
	return repair(firstOfEach(items))
}

// firstOfEach: the items without those whose key an earlier one has; so all that remain fit into an arrangement by their number.
func firstOfEach(items []string) []string {
	keys := map[string]bool{}
	var firsts []string
	for _, item := range items {
		if !keys[oracleKey(item)] {
			firsts = append(firsts, item)
		}
		keys[oracleKey(item)] = true
	}
	return firsts
}

// hostRun does what the bytes say: mostly calls of hosts, between them plans, now and then a rack anew or a power that goes.
func (d *drill) hostRun(rnd *rand.Rand, calls []byte) {
	d.t.Helper()
	for _, call := range calls {
		switch {
		case d.r == nil || call == 255 || (d.m.dead && call >= 192):
			d.restore(rnd.Int() ^ -rnd.Intn(2))
			d.open()
		case call >= 253:
			d.arm(rnd.Intn(30))
		case call >= 238:
			d.start(denseText(rnd, d.m.now))
		case call >= 234:
			for d.m.busy() {
				d.step(false)
			}
		case call >= 200:
			d.step(false)
		case call >= 196:
			d.step(true)
		case call >= 192:
			d.stop()
		default:
			d.hostCall(rnd)
		}
	}
}

// newHostDrill: a drill with an arrangement in which hosts see disks.
func newHostDrill(t *testing.T, rnd *rand.Rand) *drill {
	t.Helper()
	d := newDrill(t)
	d.whole(denseText(rnd, ""))
	return d
}

func TestManyHostCallsInAnyOrder(t *testing.T) {
	rnd := rand.New(rand.NewSource(71))
	var told [7][18]int
	for range 400 {
		calls := make([]byte, 100+rnd.Intn(400))
		rnd.Read(calls)
		d := newHostDrill(t, rnd)
		d.hostRun(rnd, calls)
		for call := range told {
			for err, n := range d.told[call] {
				told[call][err] += n
			}
		}
	}
	for call, errs := range [][]api.Errno{
		{api.OK, api.ErrPower, api.ErrHost, api.ErrRoom},
		{api.OK, api.ErrPower, api.ErrSession},
		{api.OK, api.ErrPower, api.ErrSession, api.ErrChanged},
		{api.OK, api.ErrPower, api.ErrSession, api.ErrChanged, api.ErrLun, api.ErrReserved, api.ErrBlock},
		{api.OK, api.ErrPower, api.ErrSession, api.ErrChanged, api.ErrLun, api.ErrOnly, api.ErrReserved, api.ErrBlock, api.ErrArg},
		{api.OK, api.ErrPower, api.ErrSession, api.ErrChanged, api.ErrLun, api.ErrReserved},
		{api.OK, api.ErrPower, api.ErrSession, api.ErrChanged, api.ErrLun, api.ErrReserved},
	} {
		for _, err := range errs {
			if told[call][err] < 20 {
				t.Errorf("%s told %d only %d times: the test has grown blind", hostNames[call], err, told[call][err])
			}
		}
	}
}

func FuzzHosts(f *testing.F) {
	f.Add(int64(1), []byte{0, 1, 2, 3, 240, 200, 4, 5, 200, 6, 196, 7, 8})
	f.Add(int64(2), []byte{0, 1, 2, 3, 240, 200, 200, 9, 193, 10, 253, 240, 235, 11, 255, 12})
	f.Fuzz(func(t *testing.T, seed int64, calls []byte) {
		rnd := rand.New(rand.NewSource(seed))
		newHostDrill(t, rnd).hostRun(rnd, calls[:min(len(calls), 500)])
	})
}
