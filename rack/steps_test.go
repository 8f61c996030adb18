package rack_test

import (
	"fmt"
	"math/rand"
	"slices"
	"strings"
	"testing"

	"rack/api"
	"rack/rack"
)

// without: a text without one of its items.
func without(text, item string) string {
	return strings.TrimPrefix(strings.Replace(";"+text, ";"+item, ";", 1), ";")
}

// views: what each of the sessions 0 to 3 is answered, for each number and each block. What has news tells it here, and only once.
func views(r *rack.Rack) []string {
	var told []string
	for s := range 4 {
		list, err := r.List(s)
		told = append(told, fmt.Sprint("List ", s, ": ", list, err))
		for n := range 8 {
			for block := range 10 {
				value, err := r.Read(s, n, block)
				told = append(told, fmt.Sprint("Read ", s, n, block, ": ", value, err))
			}
		}
	}
	return told
}

// wantViews: the sessions are answered as told ahead.
func wantViews(t *testing.T, r *rack.Rack, ahead []string, behind string) {
	t.Helper()
	for i, told := range views(r) {
		if told != ahead[i] {
			t.Errorf("P14, behind %s: %s, want %s", behind, told, ahead[i])
		}
	}
}

// busyShop: the shop with its three sessions, with values in all blocks, and with b reserved by session 2, and a by session 1.
func busyShop(t *testing.T) *rack.Rack {
	t.Helper()
	r := opened(t)
	for block := range 4 {
		wantWrite(t, r, 0, 0, block, 10+block, api.OK)
	}
	for block := range 9 {
		wantWrite(t, r, 2, 5, block, 20+block, api.OK)
	}
	wantReserve(t, r, 1, 0, api.OK)
	wantReserve(t, r, 2, 5, api.OK)
	return r
}

// P14: steps with items that no session has to do with, done, undone by Stop and by a step that fails, and taken back by a plan of their own.
func TestStepsThatTouchNoSession(t *testing.T) {
	const last = "map y k 7 1;" // of a host without sessions; it is the plan's last step
	for _, item := range []string{"disk c 3;", "disk ab 9;", "target z;", "lun x 0 a ro;", "lun x 3 b rw;", "lun y 0 a rw;", "host x z;", "host x hh;", "host y j;", "map y k 0 1;", "map y k 5 2;", "map y k 3 2;"} {
		base := shop + "host y k;"
		r := busyShop(t)
		turn(t, r, base)
		ahead := views(r)
		wantSteps(t, r, base+item+last)
		wantViews(t, r, ahead, "Start")
		wantStep(t, r, false, 1, api.OK)
		wantViews(t, r, ahead, "+"+item)
		wantStop(t, r, api.OK)
		wantViews(t, r, ahead, "Stop of +"+item)
		wantSteps(t, r, base+item+last, 1)
		wantStep(t, r, true, 0, api.ErrStep)
		wantViews(t, r, ahead, "the failure of +"+item)
		wantSteps(t, r, base+item+last, 1, 0)
		wantViews(t, r, ahead, "+"+item+" and +"+last)
		turn(t, r, base+item)
		wantSteps(t, r, base+last, 1)
		wantViews(t, r, ahead, "-"+item)
		wantStop(t, r, api.OK)
		wantViews(t, r, ahead, "Stop of -"+item)
		wantSteps(t, r, base+last, 1, 0)
		wantViews(t, r, ahead, "-"+item+" and +"+last)
		turn(t, r, shop)
		wantViews(t, r, ahead, "-host of a host without sessions")
	}
}

// P14: a target goes and comes, without a session that has to do with it.
func TestStepsWithATargetOfNoSession(t *testing.T) {
	r := busyShop(t)
	ahead := views(r)
	turn(t, r, shop+"target z;lun z 1 a rw;host z h;map z h 0 1;")
	wantViews(t, r, ahead, "a target that comes")
	turn(t, r, shop)
	wantViews(t, r, ahead, "a target that goes")
}

// newsCalls: the calls that news come ahead of, each with good arguments and with ones that are not.
var newsCalls = []struct {
	name string
	call func(r *rack.Rack) api.Errno
}{
	{"List", func(r *rack.Rack) api.Errno { _, err := r.List(0); return err }},
	{"Read", func(r *rack.Rack) api.Errno { _, err := r.Read(0, 0, 0); return err }},
	{"Read of nothing", func(r *rack.Rack) api.Errno { _, err := r.Read(0, -1, 99); return err }},
	{"Write", func(r *rack.Rack) api.Errno { return r.Write(0, 0, 0, 99) }},
	{"Write of nothing", func(r *rack.Rack) api.Errno { return r.Write(0, most, -1, -1) }},
	{"Write for reading alone", func(r *rack.Rack) api.Errno { return r.Write(0, 7, 0, 99) }},
	{"Reserve", func(r *rack.Rack) api.Errno { return r.Reserve(0, 0) }},
	{"Reserve of nothing", func(r *rack.Rack) api.Errno { return r.Reserve(0, 8) }},
	{"Release", func(r *rack.Rack) api.Errno { return r.Release(0, 0) }},
	{"Release of nothing", func(r *rack.Rack) api.Errno { return r.Release(0, 8) }},
}

// P14: each of the calls tells news, does nothing, and the session has none any more; neither has a session of another host or target any.
func TestNewsAheadOfEachCall(t *testing.T) {
	const item = "map x h 6 2;"
	for _, c := range newsCalls {
		r := opened(t)
		wantWrite(t, r, 0, 0, 0, 5, api.OK)
		for i, text := range []string{shop + item, shop, shop + item} {
			turn(t, r, text)
			wantList(t, r, 1, api.OK, 0)
			wantList(t, r, 2, api.OK, 0, 5)
			if err := c.call(r); err != api.ErrChanged {
				t.Errorf("P14: %s with news = %d", c.name, err)
			}
			wantRead(t, r, 0, 0, 0, 5, api.OK)
			if i%2 == 0 {
				wantList(t, r, 0, api.OK, 0, 3, 6, 7)
			} else {
				wantList(t, r, 0, api.OK, 0, 3, 7)
			}
			wantReserve(t, r, 1, 0, api.OK)
			wantRelease(t, r, 1, 0, api.OK)
		}
	}
}

// P14: what has news is not released by the call that tells them.
func TestReleaseWithNewsReleasesNothing(t *testing.T) {
	r := opened(t)
	wantReserve(t, r, 0, 0, api.OK)
	turn(t, r, shop+"map x h 6 2;")
	wantRelease(t, r, 0, 0, api.ErrChanged)
	wantRead(t, r, 1, 0, 0, 0, api.ErrReserved)
	wantRelease(t, r, 0, 0, api.OK)
	wantRead(t, r, 1, 0, 0, 0, api.OK)
}

// P14: news are one, behind however many steps; a session that begins has none, nor is it told by Login and Logout.
func TestNewsAreOne(t *testing.T) {
	r := opened(t)
	turn(t, r, shop+"map x h 6 2;map x h 5 2;map x h 4 1;")
	turn(t, r, shop)
	wantLogin(t, r, "x", "h", 3, api.OK)
	wantList(t, r, 3, api.OK, 0, 3, 7)
	wantList(t, r, 0, api.ErrChanged)
	wantList(t, r, 0, api.OK, 0, 3, 7)
	turn(t, r, shop+"map x h 6 2;")
	wantLogin(t, r, "x", "h", 4, api.OK)
	wantLogout(t, r, 3, api.OK)
	wantLogout(t, r, 3, api.ErrSession)
	wantRead(t, r, 0, 6, 0, 0, api.ErrChanged)
	wantRead(t, r, 0, 6, 0, 0, api.OK)
	wantRead(t, r, 4, 6, 0, 0, api.OK)
}

// P14: each session of the target and the host has news of its own.
func TestNewsOfEachSession(t *testing.T) {
	r := opened(t)
	for s := 3; s < api.MaxSessions; s++ {
		wantLogin(t, r, "x", "h", s, api.OK)
	}
	turn(t, r, without(shop, "map x h 3 1;"))
	for _, s := range []int{0, 3, 4, 5, 6, 7} {
		wantList(t, r, s, api.ErrChanged)
		wantList(t, r, s, api.OK, 0, 7)
	}
	wantList(t, r, 1, api.OK, 0)
	wantList(t, r, 2, api.OK, 0, 5)
}

// P14: with `-map` and with `+map`, at the very step and not ahead of it; the disk stays reserved, and keeps its blocks.
func TestMapGoesAndComes(t *testing.T) {
	r := opened(t)
	wantWrite(t, r, 2, 5, 8, 9, api.OK)
	wantReserve(t, r, 2, 5, api.OK)
	turn(t, r, shop+"host y k;map y k 1 2;")
	wantLogin(t, r, "y", "k", 3, api.OK)
	wantSteps(t, r, without(shop, "map y h 5 2;")+"host y k;map y k 1 2;map y k 2 1;", 1)
	wantList(t, r, 3, api.OK, 1)
	wantRead(t, r, 2, 5, 8, 0, api.ErrChanged)
	wantRead(t, r, 2, 5, 8, 0, api.ErrLun)
	wantRelease(t, r, 2, 5, api.ErrLun)
	wantRead(t, r, 3, 1, 8, 0, api.ErrReserved)
	wantStep(t, r, false, 0, api.OK)
	wantRead(t, r, 2, 5, 8, 0, api.ErrLun)
	wantList(t, r, 3, api.ErrChanged)
	wantRead(t, r, 3, 1, 8, 0, api.ErrReserved)
	turn(t, r, shop+"host y k;map y k 1 2;map y k 2 1;")
	wantRead(t, r, 2, 5, 8, 0, api.ErrChanged)
	wantRead(t, r, 2, 5, 8, 9, api.OK)
	wantRead(t, r, 3, 1, 8, 0, api.ErrReserved)
	wantLogout(t, r, 2, api.OK)
	wantRead(t, r, 3, 1, 8, 9, api.OK)
}

// P14, P16: a map that names another lun, a lun of another disk or of another mode: the session sees the new one.
func TestWhatIsSeenChanges(t *testing.T) {
	r := opened(t)
	wantWrite(t, r, 0, 0, 0, 5, api.OK)
	turn(t, r, strings.Replace(shop, "map x h 0 1;", "map x h 0 2;", 1))
	wantWrite(t, r, 0, 0, 0, 6, api.ErrChanged)
	wantWrite(t, r, 0, 0, 0, 6, api.ErrOnly)
	turn(t, r, shop)
	wantList(t, r, 0, api.ErrChanged)
	turn(t, r, strings.Replace(shop, "lun x 1 a rw;", "lun x 1 b rw;", 1))
	wantRead(t, r, 0, 0, 0, 0, api.ErrChanged)
	wantRead(t, r, 0, 0, 0, 0, api.OK)
	wantRead(t, r, 0, 7, 0, 5, api.OK)
	wantWrite(t, r, 0, 0, 8, 6, api.OK)
	wantRead(t, r, 2, 5, 8, 6, api.OK)
	turn(t, r, strings.Replace(shop, "lun x 1 a rw;", "lun x 1 a ro;", 1))
	wantRead(t, r, 0, 3, 0, 0, api.ErrChanged)
	wantRead(t, r, 0, 3, 0, 5, api.OK)
	wantWrite(t, r, 0, 3, 0, 7, api.ErrOnly)
	wantRead(t, r, 2, 0, 0, 5, api.OK)
}

// P13, P14: `-host` ends the sessions of this target and this host, at this step, and no other; what they have reserved is free; their numbers never come again.
func TestHostGoes(t *testing.T) {
	r := opened(t)
	wantLogin(t, r, "x", "h", 3, api.OK)
	wantWrite(t, r, 0, 0, 1, 5, api.OK)
	wantReserve(t, r, 3, 0, api.OK)
	wantReserve(t, r, 2, 5, api.OK)
	wantSteps(t, r, without(without(without(without(shop, "map x h 0 1;"), "map x h 3 1;"), "map x h 7 2;"), "host x h;")+"host z h;target z;", 5, 4, 3)
	wantList(t, r, 3, api.ErrChanged)
	wantList(t, r, 3, api.OK)
	wantRead(t, r, 1, 0, 1, 0, api.ErrReserved)
	wantStep(t, r, false, 2, api.OK)
	wantNoSession(t, r, 0)
	wantNoSession(t, r, 3)
	wantRead(t, r, 1, 0, 1, 5, api.OK)
	wantRead(t, r, 2, 5, 0, 0, api.OK)
	wantLogin(t, r, "x", "h", 0, api.ErrHost)
	wantStep(t, r, false, 1, api.OK)
	wantStep(t, r, false, 0, api.OK)
	wantLogin(t, r, "z", "h", 4, api.OK)
	wantLogin(t, r, "y", "h", 5, api.OK)
	wantRead(t, r, 5, 5, 0, 0, api.ErrReserved)
	turn(t, r, shop)
	wantNoSession(t, r, 4)
	wantLogin(t, r, "x", "h", 6, api.OK)
	wantRead(t, r, 6, 0, 1, 5, api.OK)
	wantNoSession(t, r, 0)
}

// P13: where all sessions end with a step, there is room again.
func TestHostGoesWithAllSessions(t *testing.T) {
	r := turned(t, one)
	for round := range 4 {
		for s := range api.MaxSessions {
			wantLogin(t, r, "x", "h", round*api.MaxSessions+s, api.OK)
		}
		wantLogin(t, r, "x", "h", 0, api.ErrRoom)
		turn(t, r, "disk a 4;target x;lun x 1 a rw;")
		for s := range 2 + (round+1)*api.MaxSessions {
			wantNoSession(t, r, s)
		}
		turn(t, r, one)
	}
}

// P14: `-disk` and `+disk`: what stands in the blocks is gone, and that it was reserved; of another disk it is not.
func TestDiskGoesAndComes(t *testing.T) {
	r := busyShop(t)
	wantSteps(t, r, strings.Replace(shop, "disk a 4;", "disk a 2;", 1), 17, 16, 15, 14, 13)
	wantRead(t, r, 2, 0, 0, 0, api.ErrChanged)
	wantRead(t, r, 2, 0, 0, 0, api.ErrLun)
	wantRead(t, r, 2, 5, 8, 28, api.OK)
	for left := 12; left >= 0; left-- {
		wantStep(t, r, false, left, api.OK)
	}
	for s := range 3 {
		wantList(t, r, s, api.ErrChanged)
		wantRead(t, r, s, 0, 0, 0, api.OK)
		wantRead(t, r, s, 0, 1, 0, api.OK)
		wantRead(t, r, s, 0, 2, 0, api.ErrBlock)
	}
	wantWrite(t, r, 0, 3, 1, 7, api.OK)
	wantReserve(t, r, 0, 0, api.OK)
	wantLogin(t, r, "y", "h", 3, api.OK)
	wantRead(t, r, 3, 5, 8, 0, api.ErrReserved)
	wantRead(t, r, 2, 5, 8, 28, api.OK)
}

// P14: a disk that goes with one plan and comes with a later one, with the same item.
func TestTheSameDiskComesAgain(t *testing.T) {
	r := turned(t, one+"host x k;map x k 0 1;")
	wantLogin(t, r, "x", "h", 0, api.OK)
	wantLogin(t, r, "x", "k", 1, api.OK)
	wantWrite(t, r, 0, 0, 3, 9, api.OK)
	wantReserve(t, r, 0, 0, api.OK)
	turn(t, r, "target x;host x h;host x k;")
	turn(t, r, one+"host x k;map x k 0 1;")
	wantRead(t, r, 1, 0, 3, 0, api.ErrChanged)
	wantRead(t, r, 1, 0, 3, 0, api.OK)
	wantReserve(t, r, 1, 0, api.OK)
	wantLogout(t, r, 0, api.OK)
	wantRead(t, r, 1, 0, 3, 0, api.OK)
}

// undoes: a plan is undone by Stop, and by a step that fails.
var undoes = []struct {
	name string
	undo func(t *testing.T, r *rack.Rack)
}{
	{"Stop", func(t *testing.T, r *rack.Rack) { t.Helper(); wantStop(t, r, api.OK) }},
	{"a step that fails", func(t *testing.T, r *rack.Rack) { t.Helper(); wantStep(t, r, true, 0, api.ErrStep) }},
}

// P11, P14: where nothing was done, nothing is undone, and no session has news.
func TestUndoOfNothing(t *testing.T) {
	for _, u := range undoes {
		r := busyShop(t)
		ahead := views(r)
		wantStart(t, r, "", api.OK)
		u.undo(t, r)
		wantViews(t, r, ahead, u.name)
		wantStep(t, r, true, 0, api.ErrIdle)
		wantStart(t, r, "?", api.ErrForm)
		wantStart(t, r, shop, api.OK)
		wantStop(t, r, api.ErrIdle)
		wantViews(t, r, ahead, "calls that do nothing")
	}
}

// P11, P14: what is undone does what steps do: maps that come again bring news, hosts that come again bring no session, disks that come again are empty.
func TestUndoStepByStep(t *testing.T) {
	for _, u := range undoes {
		for done := 1; done <= 5; done++ {
			r := turned(t, one)
			wantLogin(t, r, "x", "h", 0, api.OK)
			wantWrite(t, r, 0, 0, 0, 9, api.OK)
			wantReserve(t, r, 0, 0, api.OK)
			wantSteps(t, r, "disk b 1;", []int{5, 4, 3, 2, 1}[:done]...)
			if done == 1 {
				wantList(t, r, 0, api.ErrChanged)
				wantList(t, r, 0, api.OK)
			}
			u.undo(t, r)
			if done > 1 {
				wantNoSession(t, r, 0)
			} else {
				wantRead(t, r, 0, 0, 0, 0, api.ErrChanged)
				wantRead(t, r, 0, 0, 0, 9, api.OK)
			}
			wantLogin(t, r, "x", "h", 1, api.OK)
			wantList(t, r, 1, api.OK, 0)
			switch {
			case done == 1:
				wantRead(t, r, 1, 0, 0, 0, api.ErrReserved)
			case done < 5:
				wantRead(t, r, 1, 0, 0, 9, api.OK)
			default:
				wantRead(t, r, 1, 0, 0, 0, api.OK)
			}
		}
	}
}

// P11, P14: what a plan has brought is taken again: a session that began at its host ends, what stands on its disk is gone.
func TestUndoOfWhatCame(t *testing.T) {
	for _, u := range undoes {
		r := turned(t, one)
		wantLogin(t, r, "x", "h", 0, api.OK)
		wantSteps(t, r, one+"disk b 2;lun x 2 b rw;host x k;map x h 1 2;map x k 0 2;map x k 1 1;", 5, 4, 3, 2, 1)
		wantLogin(t, r, "x", "k", 1, api.OK)
		wantWrite(t, r, 1, 0, 1, 9, api.OK)
		wantReserve(t, r, 1, 0, api.OK)
		wantList(t, r, 0, api.ErrChanged)
		wantRead(t, r, 0, 1, 1, 0, api.ErrReserved)
		u.undo(t, r)
		wantConfig(t, r, one)
		wantNoSession(t, r, 1)
		wantList(t, r, 0, api.ErrChanged)
		wantList(t, r, 0, api.OK, 0)
		wantRead(t, r, 0, 1, 1, 0, api.ErrLun)
		turn(t, r, one+"disk b 2;lun x 2 b rw;map x h 1 2;")
		wantList(t, r, 0, api.ErrChanged)
		wantRead(t, r, 0, 1, 1, 0, api.OK)
		wantLogin(t, r, "x", "h", 2, api.OK)
	}
}

// untouched: an arrangement that another could become, in which all that the sessions of a target and a host have to do with stays, and to which no map of theirs comes.
func untouched(rnd *rand.Rand, from, target, host string) string {
	var items []string
	keep := map[string]bool{"host " + target + " " + host: true}
	for i := range oracleKinds {
		for _, item := range splitItems(from) {
			own := strings.HasPrefix(item, "map "+target+" "+host+" ")
			if strings.HasPrefix(item, oracleKinds[4-i]+" ") && (own || keep[oracleKey(item)]) {
				items = append(items, item)
				for _, name := range oracleNames(item) {
					keep[name] = true
				}
			}
		}
	}
	others := splitItems(denseText(rnd, from))
	if rnd.Intn(3) == 0 {
		others = append(others, denseItem(rnd), anyItem(rnd), anyItem(rnd))
	}
	for _, item := range others {
		if !strings.HasPrefix(item, "map "+target+" "+host+" ") {
			items = append(items, item)
		}
	}
	return repair(items)
}

// ask: one call for the session 0 on a rack, by chance; the answer as a text.
func ask(rnd *rand.Rand, r *rack.Rack) string {
	n, block, value := rnd.Intn(5), rnd.Intn(5), rnd.Intn(260)
	switch rnd.Intn(8) {
	case 0:
		list, err := r.List(0)
		return fmt.Sprint("List ", list, err)
	case 1, 2, 3:
		value, err := r.Read(0, n, block)
		return fmt.Sprint("Read ", n, block, value, err)
	case 4, 5:
		return fmt.Sprint("Write ", n, block, value, r.Write(0, n, block, value))
	case 6:
		return fmt.Sprint("Reserve ", n, r.Reserve(0, n))
	}
	return fmt.Sprint("Release ", n, r.Release(0, n))
}

// move does something with plans that leaves the session of a host alone; how many steps it did.
func move(t *testing.T, rnd *rand.Rand, r *rack.Rack, target, host string) int {
	t.Helper()
	now, _ := r.Config()
	switch rnd.Intn(12) {
	case 0:
		r.Stop()
	case 1:
		r.Step(true)
	case 2, 3:
		// Another plan while one is under way is refused.
		r.Start(untouched(rnd, now, target, host))
	default:
		if _, err := r.Step(false); err == api.OK {
			return 1
		}
		wantStart(t, r, untouched(rnd, now, target, host), api.OK)
	}
	return 0
}

// P18: a session that plans do not touch is answered as on a rack without plans, as long as there is no other session.
func TestASessionThatNoPlanTouches(t *testing.T) {
	rnd := rand.New(rand.NewSource(91))
	steps, values := 0, 0
	for range 300 {
		from := denseText(rnd, "")
		hosts := slices.DeleteFunc(splitItems(from), func(item string) bool { return !strings.HasPrefix(item, "host ") })
		if len(hosts) == 0 {
			continue
		}
		words := itemWords(hosts[rnd.Intn(len(hosts))])
		still, moved := turned(t, from), turned(t, from)
		wantLogin(t, still, words[1], words[2], 0, api.OK)
		wantLogin(t, moved, words[1], words[2], 0, api.OK)
		seed := rnd.Int63()
		first, second := rand.New(rand.NewSource(seed)), rand.New(rand.NewSource(seed))
		for range 100 {
			steps += move(t, rnd, moved, words[1], words[2])
			want, got := ask(first, still), ask(second, moved)
			if got != want {
				now, _ := moved.Config()
				t.Fatalf("P18: from %q, now %q, the session of %q: %s, without plans %s", from, now, words, got, want)
			}
			if strings.HasPrefix(got, "Read ") && strings.HasSuffix(got, " 0") && !strings.HasSuffix(got, " 0 0") {
				values++
			}
		}
	}
	if steps < 3000 || values < 500 {
		t.Errorf("%d steps and %d values read: the test has grown blind", steps, values)
	}
}
