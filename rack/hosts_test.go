package rack_test

import (
	"fmt"
	"math/rand"
	"slices"
	"strings"
	"testing"
	"unsafe"

	"rack/api"
	"rack/rack"
)

// shop: host h sees at x the disk a under two numbers for writing and under one for reading alone; k sees it there too, and h at y, with b beside it.
const shop = "disk a 4;disk b 9;target x;target y;lun x 1 a rw;lun x 2 a ro;lun y 1 a rw;lun y 2 b rw;host x h;host x k;host y h;map x h 0 1;map x h 3 1;map x h 7 2;map x k 0 1;map y h 0 1;map y h 5 2;"

func wantLogin(t *testing.T, r *rack.Rack, target, host string, s int, err api.Errno) {
	t.Helper()
	if n, e := r.Login(target, host); n != s || e != err {
		t.Errorf("P13: Login(%.50q, %.50q) = %d, %d, want %d, %d", target, host, n, e, s, err)
	}
}

func wantLogout(t *testing.T, r *rack.Rack, s int, err api.Errno) {
	t.Helper()
	if e := r.Logout(s); e != err {
		t.Errorf("P13: Logout(%d) = %d, want %d", s, e, err)
	}
}

func wantList(t *testing.T, r *rack.Rack, s int, err api.Errno, list ...int) {
	t.Helper()
	if l, e := r.List(s); e != err || !slices.Equal(l, list) {
		t.Errorf("P15: List(%d) = %v, %d, want %v, %d", s, l, e, list, err)
	}
}

func wantRead(t *testing.T, r *rack.Rack, s, n, block, value int, err api.Errno) {
	t.Helper()
	if v, e := r.Read(s, n, block); v != value || e != err {
		t.Errorf("P16: Read(%d, %d, %d) = %d, %d, want %d, %d", s, n, block, v, e, value, err)
	}
}

func wantWrite(t *testing.T, r *rack.Rack, s, n, block, value int, err api.Errno) {
	t.Helper()
	if e := r.Write(s, n, block, value); e != err {
		t.Errorf("P16: Write(%d, %d, %d, %d) = %d, want %d", s, n, block, value, e, err)
	}
}

func wantReserve(t *testing.T, r *rack.Rack, s, n int, err api.Errno) {
	t.Helper()
	if e := r.Reserve(s, n); e != err {
		t.Errorf("P17: Reserve(%d, %d) = %d, want %d", s, n, e, err)
	}
}

func wantRelease(t *testing.T, r *rack.Rack, s, n int, err api.Errno) {
	t.Helper()
	if e := r.Release(s, n); e != err {
		t.Errorf("P17: Release(%d, %d) = %d, want %d", s, n, e, err)
	}
}

// wantSteps: Start, and the next steps of the plan, with as many left behind each of them as told.
func wantSteps(t *testing.T, r *rack.Rack, text string, left ...int) {
	t.Helper()
	wantStart(t, r, text, api.OK)
	for _, n := range left {
		wantStep(t, r, false, n, api.OK)
	}
}

// turned: a rack with an arrangement.
func turned(t *testing.T, text string) *rack.Rack {
	t.Helper()
	r := mustOpen(t, api.NewDevice())
	turn(t, r, text)
	return r
}

// turn does a plan from its beginning to its end.
func turn(t *testing.T, r *rack.Rack, text string) {
	t.Helper()
	wantStart(t, r, text, api.OK)
	for left := 1; left > 0; {
		n, err := r.Step(false)
		if err != api.OK {
			t.Fatalf("P10: Step(false) = %d, %d", n, err)
		}
		left = n
	}
}

// opened: a rack with the shop and three sessions: 0 of h at x, 1 of k at x, 2 of h at y.
func opened(t *testing.T) *rack.Rack {
	t.Helper()
	r := turned(t, shop)
	wantLogin(t, r, "x", "h", 0, api.OK)
	wantLogin(t, r, "x", "k", 1, api.OK)
	wantLogin(t, r, "y", "h", 2, api.OK)
	return r
}

func TestHostsDocumentExamples(t *testing.T) {
	r := turned(t, one)
	wantLogin(t, r, "x", "h", 0, api.OK)
	wantWrite(t, r, 0, 0, 3, 77, api.OK)
	wantRead(t, r, 0, 0, 3, 77, api.OK)
	wantRead(t, r, 0, 0, 4, 0, api.ErrBlock)
	wantRead(t, r, 0, 1, 0, 0, api.ErrLun)
	wantList(t, r, 0, api.OK, 0)
	wantSteps(t, r, one+"map x h 5 1;", 0)
	wantRead(t, r, 0, 0, 3, 0, api.ErrChanged)
	wantRead(t, r, 0, 0, 3, 77, api.OK)
	wantList(t, r, 0, api.OK, 0, 5)
	wantSteps(t, r, "disk a 4;target x;lun x 1 a rw;", 2)
	wantStep(t, r, true, 0, api.ErrStep)
	wantConfig(t, r, one+"map x h 5 1;")
	wantList(t, r, 0, api.ErrChanged)
	wantList(t, r, 0, api.OK, 0, 5)
	wantRead(t, r, 0, 0, 3, 77, api.OK)
}

// P13: a host may log in at those targets that have it, and under no other name.
func TestLoginHost(t *testing.T) {
	r := turned(t, shop)
	for _, c := range [][2]string{
		{"y", "k"}, {"z", "h"}, {"h", "x"}, {"a", "h"}, {"x", "x"}, {"", ""}, {"x", ""}, {"", "h"}, {"x h", ""}, {"", "x h"}, {"x", "h;"}, {"x ", "h"}, {" x", "h"}, {"x", " h"}, {"X", "H"}, {"x", "hh"}, {"xx", "h"}, {"x\x00", "h"}, {"host x", "h"}, {"x", "h 0 1"}, {"\xff", "\xff"}, {strings.Repeat("x", 1<<20), "h"}, {"x", strings.Repeat("h", 1<<20)},
	} {
		wantLogin(t, r, c[0], c[1], 0, api.ErrHost)
	}
	wantLogin(t, r, "y", "h", 0, api.OK)
	wantLogin(t, mustOpen(t, api.NewDevice()), "x", "h", 0, api.ErrHost)
	one := turned(t, "target abcd;host abcd zzzz;")
	wantLogin(t, one, "abc", "zzzz", 0, api.ErrHost)
	wantLogin(t, one, "abcd", "zzz", 0, api.ErrHost)
	wantLogin(t, one, "abcd", "zzzz", 0, api.OK)
}

// P13: it is asked what is there now, with the steps that a plan has done so far.
func TestLoginWhileAPlanIsUnderWay(t *testing.T) {
	r := mustOpen(t, api.NewDevice())
	wantSteps(t, r, one, 4, 3, 2)
	wantLogin(t, r, "x", "h", 0, api.ErrHost)
	wantStep(t, r, false, 1, api.OK)
	wantLogin(t, r, "x", "h", 0, api.OK)
	wantList(t, r, 0, api.OK)
	wantStep(t, r, false, 0, api.OK)
	wantList(t, r, 0, api.ErrChanged)
	wantList(t, r, 0, api.OK, 0)
	wantSteps(t, r, "", 4, 3)
	wantLogin(t, r, "x", "h", 0, api.ErrHost)
	wantStop(t, r, api.OK)
	wantLogin(t, r, "x", "h", 1, api.OK)
}

// P13: MaxSessions at one time and no more; ErrHost comes ahead of ErrRoom; what is refused takes no number.
func TestLoginRoom(t *testing.T) {
	r := turned(t, shop)
	var open []int
	for s := range api.MaxSessions {
		wantLogin(t, r, []string{"x", "y"}[s%2], "h", s, api.OK)
		open = append(open, s)
	}
	for range 3 {
		wantLogin(t, r, "x", "k", 0, api.ErrRoom)
		wantLogin(t, r, "x", "h", 0, api.ErrRoom)
		wantLogin(t, r, "y", "k", 0, api.ErrHost)
	}
	for next := api.MaxSessions; next < 40; next++ {
		place := next * 5 % len(open)
		wantLogout(t, r, open[place], api.OK)
		wantLogin(t, r, "x", "h", next, api.OK)
		open[place] = next
		wantLogin(t, r, "x", "h", 0, api.ErrRoom)
		for _, s := range open {
			if _, err := r.List(s); err != api.OK {
				t.Errorf("P13: of the sessions %v, %d answers %d", open, s, err)
			}
		}
	}
}

// P13: no number comes again, behind Logout of the first, the last or all.
func TestNoNumberComesAgain(t *testing.T) {
	r := turned(t, one)
	next := 0
	for round := range 30 {
		var open []int
		for range 1 + round%api.MaxSessions {
			wantLogin(t, r, "x", "h", next, api.OK)
			open = append(open, next)
			next++
		}
		if round%2 == 0 {
			slices.Reverse(open)
		}
		for _, s := range open {
			wantLogout(t, r, s, api.OK)
		}
		for s := range next + 2 {
			wantLogout(t, r, s, api.ErrSession)
			wantList(t, r, s, api.ErrSession)
		}
	}
}

// wantNoSession: each call for a session that is not there, with arguments that are good and ones that are not.
func wantNoSession(t *testing.T, r *rack.Rack, s int) {
	t.Helper()
	wantLogout(t, r, s, api.ErrSession)
	wantList(t, r, s, api.ErrSession)
	for _, n := range []int{0, 6, -1, most} {
		wantRead(t, r, s, n, 0, 0, api.ErrSession)
		wantRead(t, r, s, n, -1, 0, api.ErrSession)
		wantWrite(t, r, s, n, 0, 1, api.ErrSession)
		wantWrite(t, r, s, n, 9, 256, api.ErrSession)
		wantReserve(t, r, s, n, api.ErrSession)
		wantRelease(t, r, s, n, api.ErrSession)
	}
}

func TestNoSuchSession(t *testing.T) {
	r := opened(t)
	for _, s := range append([]int{3, 4}, wrongNumbers...) {
		wantNoSession(t, r, s)
	}
	wantLogout(t, r, 1, api.OK)
	wantNoSession(t, r, 1)
	wantList(t, r, 0, api.OK, 0, 3, 7)
	wantList(t, r, 2, api.OK, 0, 5)
	wantNoSession(t, turned(t, shop), 0)
}

// P13: what a session that logs out has reserved is free, and what another has is not.
func TestLogoutFreesWhatIsReserved(t *testing.T) {
	r := opened(t)
	wantReserve(t, r, 2, 0, api.OK)
	wantReserve(t, r, 2, 5, api.OK)
	wantLogin(t, r, "y", "h", 3, api.OK)
	wantRead(t, r, 0, 0, 0, 0, api.ErrReserved)
	wantRead(t, r, 3, 5, 0, 0, api.ErrReserved)
	wantLogout(t, r, 1, api.OK)
	wantRead(t, r, 0, 0, 0, 0, api.ErrReserved)
	wantLogout(t, r, 2, api.OK)
	wantRead(t, r, 0, 0, 0, 0, api.OK)
	wantRead(t, r, 3, 5, 0, 0, api.OK)
	wantReserve(t, r, 3, 5, api.OK)
	wantReserve(t, r, 0, 0, api.OK)
	wantLogout(t, r, 0, api.OK)
	wantLogin(t, r, "y", "h", 4, api.OK)
	wantRead(t, r, 4, 5, 0, 0, api.ErrReserved)
	wantRead(t, r, 4, 0, 0, 0, api.OK)
}

// P15: the numbers of the session's own maps, the least first, however the text has them.
func TestList(t *testing.T) {
	r := opened(t)
	wantList(t, r, 0, api.OK, 0, 3, 7)
	wantList(t, r, 1, api.OK, 0)
	wantList(t, r, 2, api.OK, 0, 5)
	none := turned(t, "target x;host x h;")
	wantLogin(t, none, "x", "h", 0, api.OK)
	wantList(t, none, 0, api.OK)
	all := turned(t, "map x h 7 0;map x h 5 0;map x h 6 0;map x h 0 0;map x h 2 0;map x h 1 0;map x h 4 0;map x h 3 0;host x h;lun x 0 a ro;target x;disk a 1;")
	wantLogin(t, all, "x", "h", 0, api.OK)
	wantList(t, all, 0, api.OK, 0, 1, 2, 3, 4, 5, 6, 7)
}

// P15: maps that come late stand where their numbers do.
func TestListOfMapsThatComeLate(t *testing.T) {
	r := turned(t, one)
	wantLogin(t, r, "x", "h", 0, api.OK)
	turn(t, r, one+"map x h 5 1;")
	turn(t, r, one+"map x h 5 1;map x h 2 1;")
	turn(t, r, "disk a 4;target x;lun x 1 a rw;host x h;map x h 5 1;map x h 2 1;")
	turn(t, r, one+"map x h 5 1;map x h 2 1;")
	wantList(t, r, 0, api.ErrChanged)
	wantList(t, r, 0, api.OK, 0, 2, 5)
}

// P16: a disk is one, seen under two numbers, over two targets and by two hosts; for reading alone or not.
func TestOneDiskSeenManyTimes(t *testing.T) {
	r := opened(t)
	ways := []struct {
		s, n int
		only bool
	}{{0, 0, false}, {0, 3, false}, {0, 7, true}, {1, 0, false}, {2, 0, false}}
	for i, way := range ways {
		for block := range 4 {
			if way.only {
				wantWrite(t, r, way.s, way.n, block, 1, api.ErrOnly)
				continue
			}
			wantWrite(t, r, way.s, way.n, block, 10*i+block+1, api.OK)
			for _, other := range ways {
				wantRead(t, r, other.s, other.n, block, 10*i+block+1, api.OK)
			}
		}
	}
	for block := range 9 {
		wantRead(t, r, 2, 5, block, 0, api.OK)
	}
}

// P16: each disk has its own blocks, and these bear all values; the first and the last of both, and one beyond.
func TestBlocksAndValuesAtTheirBounds(t *testing.T) {
	r := opened(t)
	for _, c := range []struct{ s, n, size int }{{0, 0, 4}, {2, 5, 9}} {
		for block := range c.size {
			wantRead(t, r, c.s, c.n, block, 0, api.OK)
			wantWrite(t, r, c.s, c.n, block, 255-block, api.OK)
		}
		for _, block := range append([]int{c.size, c.size + 1}, wrongNumbers...) {
			if block < 0 || block >= c.size {
				wantRead(t, r, c.s, c.n, block, 0, api.ErrBlock)
				wantWrite(t, r, c.s, c.n, block, 1, api.ErrBlock)
			}
		}
		for _, value := range wrongNumbers {
			if value < 0 || value > 255 {
				wantWrite(t, r, c.s, c.n, 0, value, api.ErrArg)
			}
		}
		for block := range c.size {
			wantRead(t, r, c.s, c.n, block, 255-block, api.OK)
		}
	}
	for value := range 256 {
		wantWrite(t, r, 0, 0, value%4, value, api.OK)
		wantRead(t, r, 0, 7, value%4, value, api.OK)
	}
}

// P16: each size that a disk may have.
func TestEachSize(t *testing.T) {
	for size := 1; size <= 9; size++ {
		r := turned(t, strings.Replace(one, "a 4", fmt.Sprint("a ", size), 1))
		wantLogin(t, r, "x", "h", 0, api.OK)
		wantWrite(t, r, 0, 0, size-1, 255, api.OK)
		wantRead(t, r, 0, 0, size-1, 255, api.OK)
		wantWrite(t, r, 0, 0, size, 1, api.ErrBlock)
		wantRead(t, r, 0, 0, size, 0, api.ErrBlock)
	}
}

// P16, P17: a number under which the session sees nothing, though another session does, or the target has a lun under it.
func TestNothingSeen(t *testing.T) {
	r := opened(t)
	for s, free := range [][]int{{1, 2, 4, 5, 6}, {1, 2, 3, 4, 5, 6, 7}, {1, 2, 3, 4, 6, 7}} {
		for _, n := range append(free, wrongNumbers...) {
			wantRead(t, r, s, n, 0, 0, api.ErrLun)
			wantWrite(t, r, s, n, 0, 1, api.ErrLun)
			wantReserve(t, r, s, n, api.ErrLun)
			wantRelease(t, r, s, n, api.ErrLun)
		}
	}
}

// P1, P16, P17: of the errors that apply, the one named first. Each row has all errors from its own one on; what is refused changes nothing.
func TestFirstErrorFirst(t *testing.T) {
	r := opened(t)
	wantWrite(t, r, 0, 0, 0, 5, api.OK)
	wantReserve(t, r, 2, 0, api.OK)
	turn(t, r, shop+"map x h 6 1;")
	wantWrite(t, r, 9, 7, 9, 256, api.ErrSession)
	wantWrite(t, r, 0, 1, 9, 256, api.ErrChanged)
	wantWrite(t, r, 0, 1, 9, 256, api.ErrLun)
	wantWrite(t, r, 0, 7, 9, 256, api.ErrOnly)
	wantWrite(t, r, 0, 0, 9, 256, api.ErrReserved)
	wantWrite(t, r, 2, 0, 9, 256, api.ErrBlock)
	wantWrite(t, r, 2, 0, 0, 256, api.ErrArg)
	turn(t, r, shop)
	wantRead(t, r, 9, 1, 9, 0, api.ErrSession)
	wantRead(t, r, 0, 1, 9, 0, api.ErrChanged)
	wantRead(t, r, 0, 1, 9, 0, api.ErrLun)
	wantRead(t, r, 0, 7, 9, 0, api.ErrReserved)
	wantRead(t, r, 2, 0, 9, 0, api.ErrBlock)
	turn(t, r, shop+"map x h 6 1;")
	wantReserve(t, r, 9, 1, api.ErrSession)
	wantReserve(t, r, 0, 1, api.ErrChanged)
	wantReserve(t, r, 0, 1, api.ErrLun)
	wantReserve(t, r, 0, 0, api.ErrReserved)
	turn(t, r, shop)
	wantRelease(t, r, 9, 1, api.ErrSession)
	wantRelease(t, r, 0, 1, api.ErrChanged)
	wantRelease(t, r, 0, 1, api.ErrLun)
	wantRelease(t, r, 0, 0, api.ErrReserved)
	turn(t, r, shop+"map x h 6 1;")
	wantList(t, r, 9, api.ErrSession)
	wantList(t, r, 0, api.ErrChanged)
	wantRead(t, r, 2, 0, 0, 5, api.OK)
	wantRead(t, r, 1, 0, 0, 0, api.ErrReserved)
}

// P17: a disk is reserved for one session, whichever way others see it, and by whichever way it was reserved.
func TestReserve(t *testing.T) {
	for _, way := range []struct{ s, n int }{{0, 0}, {0, 3}, {0, 7}} {
		r := opened(t)
		wantLogin(t, r, "x", "h", 3, api.OK)
		wantReserve(t, r, way.s, way.n, api.OK)
		wantReserve(t, r, way.s, way.n, api.OK)
		for _, other := range []struct{ s, n int }{{1, 0}, {2, 0}, {3, 0}, {3, 3}} {
			wantRead(t, r, other.s, other.n, 0, 0, api.ErrReserved)
			wantWrite(t, r, other.s, other.n, 0, 1, api.ErrReserved)
			wantReserve(t, r, other.s, other.n, api.ErrReserved)
			wantRelease(t, r, other.s, other.n, api.ErrReserved)
		}
		wantRead(t, r, 3, 7, 0, 0, api.ErrReserved)
		wantWrite(t, r, 3, 7, 0, 1, api.ErrOnly)
		wantWrite(t, r, 2, 5, 0, 1, api.OK)
		wantReserve(t, r, 2, 5, api.OK)
		wantWrite(t, r, 0, 3, 0, 9, api.OK)
		wantRead(t, r, 0, 7, 0, 9, api.OK)
		wantReserve(t, r, 0, 3, api.OK)
		wantRelease(t, r, 0, 7, api.OK)
		wantRead(t, r, 1, 0, 0, 9, api.OK)
		wantReserve(t, r, 1, 0, api.OK)
		wantRelease(t, r, 0, 0, api.ErrReserved)
	}
}

// P17: Release of what no session has reserved is answered OK, and lets others in.
func TestReleaseOfWhatIsFree(t *testing.T) {
	r := opened(t)
	for s := range 3 {
		wantRelease(t, r, s, 0, api.OK)
		wantRelease(t, r, s, 0, api.OK)
	}
	for s := range 3 {
		wantRead(t, r, s, 0, 0, 0, api.OK)
		wantReserve(t, r, s, 0, api.OK)
		wantRelease(t, r, s, 0, api.OK)
	}
}

// P1: each call at all sorts of numbers, of a rack with sessions, held against the model.
func TestAnyNumbers(t *testing.T) {
	d := newDrill(t)
	d.whole(shop)
	d.login("x", "h")
	d.login("y", "h")
	d.reserve(1, 5)
	numbers := append([]int{0, 1, 2, 3, 4, 5, 6, 7}, wrongNumbers...)
	for _, s := range numbers {
		d.list(s)
		for _, n := range numbers {
			d.reserve(s, n)
			d.release(s, n)
			for _, block := range numbers {
				d.read(s, n, block)
				d.write(s, n, block, block)
				d.write(s, n, 0, block)
			}
			d.log = nil
		}
	}
	for _, s := range numbers {
		d.logout(s)
		d.logout(s)
	}
}

// P1: any texts in Login.
func TestLoginAnyTexts(t *testing.T) {
	d := newDrill(t)
	d.whole(shop)
	for i, text := range manyTexts() {
		d.login(text, "h")
		d.login("x", text)
		d.login(text, text)
		d.login(text[:len(text)/2], text[len(text)/2:])
		if i%100 == 0 {
			d.log = nil
		}
	}
	for a := range 256 {
		for b := range 256 {
			d.login(string([]byte{byte(a)}), string([]byte{byte(b)}))
			d.logout(d.m.hall.next - 1)
		}
		d.log = nil
	}
}

// P2: the list is the caller's, with its spare room.
func TestListAnswersAFreshList(t *testing.T) {
	r := opened(t)
	first, _ := r.List(0)
	second, _ := r.List(0)
	room := first[:cap(first)]
	for i := range room {
		room[i] = 99
	}
	if !slices.Equal(second, []int{0, 3, 7}) {
		t.Errorf("P2: what is written into one list stands in another: %v", second)
	}
	wantList(t, r, 0, api.OK, 0, 3, 7)
	wantList(t, r, 2, api.OK, 0, 5)
	wantConfig(t, r, shop)
}

// P2: Login's texts are the caller's: what becomes of their bytes changes nothing.
func TestLoginKeepsNothingOfItsTexts(t *testing.T) {
	r := turned(t, shop)
	target, host := []byte("y"), []byte("h")
	wantLogin(t, r, unsafe.String(&target[0], 1), unsafe.String(&host[0], 1), 0, api.OK)
	target[0], host[0] = 'x', 'k'
	wantList(t, r, 0, api.OK, 0, 5)
	turn(t, r, strings.Replace(shop, "map x k 0 1;", "", 1))
	wantList(t, r, 0, api.OK, 0, 5)
	turn(t, r, shop+"map y h 1 1;")
	wantList(t, r, 0, api.ErrChanged)
}

// P2: racks know nothing of each other's sessions, blocks and what is reserved.
func TestTwoRacksWithSessions(t *testing.T) {
	a, b := opened(t), opened(t)
	wantWrite(t, a, 0, 0, 0, 9, api.OK)
	wantReserve(t, a, 0, 0, api.OK)
	wantRead(t, b, 1, 0, 0, 0, api.OK)
	turn(t, a, shop+"map x h 6 1;")
	wantList(t, b, 0, api.OK, 0, 3, 7)
	wantLogout(t, a, 0, api.OK)
	wantList(t, b, 0, api.OK, 0, 3, 7)
	wantLogin(t, b, "x", "h", 3, api.OK)
}

// P2: the same calls have the same answers, whatever other racks were asked meanwhile.
func TestTheSameHostCallsHaveTheSameAnswers(t *testing.T) {
	calls := make([]byte, 1000)
	rand.New(rand.NewSource(81)).Read(calls)
	var logs []string
	for range 3 {
		rnd := rand.New(rand.NewSource(82))
		d := newHostDrill(t, rnd)
		d.hostRun(rnd, calls)
		logs = append(logs, strings.Join(d.log, "\n"))
		opened(t).Write(0, 0, 0, 200)
	}
	if logs[0] != logs[1] || logs[0] != logs[2] {
		t.Errorf("P2: %s\n\n%s\n\n%s", logs[0], logs[1], logs[2])
	}
}

// P7: a rack that Open gives has no sessions, all its blocks are 0, none is reserved; its sessions begin at 0.
func TestOpenBeginsWithoutSessions(t *testing.T) {
	for _, text := range []string{shop, strings.Join(reversed(splitItems(shop)), "")} {
		dev := api.NewDevice()
		r := mustOpen(t, dev)
		turn(t, r, text)
		wantLogin(t, r, "x", "h", 0, api.OK)
		wantLogin(t, r, "y", "h", 1, api.OK)
		wantWrite(t, r, 0, 0, 3, 9, api.OK)
		wantWrite(t, r, 1, 5, 8, 9, api.OK)
		wantReserve(t, r, 0, 0, api.OK)
		wantReserve(t, r, 1, 5, api.OK)
		again := mustOpen(t, dev)
		wantNoSession(t, again, 0)
		wantNoSession(t, again, 1)
		wantLogin(t, again, "x", "k", 0, api.OK)
		wantLogin(t, again, "y", "h", 1, api.OK)
		wantList(t, again, 0, api.OK, 0)
		wantRead(t, again, 0, 0, 3, 0, api.OK)
		wantRead(t, again, 0, 0, 4, 0, api.ErrBlock)
		for block := range 9 {
			wantRead(t, again, 1, 5, block, 0, api.OK)
		}
		wantReserve(t, again, 0, 0, api.OK)
		wantReserve(t, again, 1, 5, api.OK)
	}
}
