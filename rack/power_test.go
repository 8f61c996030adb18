package rack_test

import (
	"fmt"
	"math/rand"
	"slices"
	"strings"
	"testing"

	"rack/api"
	"rack/rack"
)

// allCalls: what each call on a rack answers, told as a text; with arguments that are wrong too, so that errors other than ErrPower would apply.
func allCalls(r *rack.Rack) []string {
	var told []string
	for _, text := range []string{"", one, "?", tooLong(), disks(25)} {
		told = append(told, fmt.Sprint(r.Start(text)))
	}
	for _, fail := range []bool{false, true} {
		n, err := r.Step(fail)
		told = append(told, fmt.Sprint(n, err))
	}
	told = append(told, fmt.Sprint(r.Stop()))
	text, err := r.Config()
	told = append(told, text+fmt.Sprint(err))
	return append(told, hostCalls(r)...)
}

func hostCalls(r *rack.Rack) []string {
	var told []string
	for _, name := range []string{"", "x", "h", strings.Repeat("y", 1000)} {
		n, err := r.Login(name, name)
		told = append(told, fmt.Sprint(n, err))
	}
	n, err := r.Login("x", "h")
	told = append(told, fmt.Sprint(n, err))
	for _, s := range []int{0, 1, -1, 1 << 62} {
		list, listErr := r.List(s)
		value, readErr := r.Read(s, 0, 0)
		told = append(told, fmt.Sprint(len(list), listErr), fmt.Sprint(value, readErr))
		told = append(told, fmt.Sprint(r.Write(s, 0, 0, -1)), fmt.Sprint(r.Reserve(s, 0)), fmt.Sprint(r.Release(s, -1)), fmt.Sprint(r.Logout(s)))
	}
	return told
}

// wantDead: each call answers ErrPower, ahead of all else, and tells nothing beside it.
func wantDead(t *testing.T, r *rack.Rack) {
	t.Helper()
	for i, told := range allCalls(r) {
		if told != "7" && told != "0 7" {
			t.Errorf("P12: behind ErrPower, answer %d is %q", i, told)
		}
	}
}

// lastStep: a rack ahead of the last step of a plan, behind as many plans as told, so that what is stored lies where it may.
func lastStep(t *testing.T, plans int, from, to string) *drill {
	t.Helper()
	d := newDrill(t)
	for i := range plans {
		d.whole([]string{"target y;", disks(24), longest()}[i%3])
	}
	d.whole(from)
	steps, _ := oraclePlan(from, to)
	d.upTo(to, len(steps)-1)
	return d
}

// pairs: plans small and great.
var pairs = [][2]string{{"", one}, {one, ""}, {one, other}, {disks(24), longest()}, {longest(), disks(24)}, {"", "target x;"}, {longest(), ""}}

// copied: the same drill on a device of its own, without a rack.
func (d *drill) copied() *drill {
	dev := *d.dev
	m := d.m
	m.may = slices.Clone(d.m.may)
	return &drill{t: d.t, dev: &dev, m: m, log: slices.Clone(d.log)}
}

// someKeeps: all are lost, all last, each alone lasts, each alone is lost, and some by chance.
func someKeeps(rnd *rand.Rand) []int {
	keeps := []int{0, -1}
	for i := range 20 {
		keeps = append(keeps, 1<<i, ^(1 << i))
	}
	for range 20 {
		keeps = append(keeps, rnd.Int(), rnd.Int()&rnd.Int()&rnd.Int())
	}
	return keeps
}

// P12: the power goes at each call of the device in the last step; of what was not flushed, any part lasts. Then the next Open tells the arrangement ahead of the plan or the plan's, and from then on the same; and plans go on.
func TestPowerInTheLastStep(t *testing.T) {
	rnd := rand.New(rand.NewSource(61))
	for _, pair := range pairs {
		for plans := range 3 {
			cuts := 0
			for n := 0; ; n++ {
				d := lastStep(t, plans, pair[0], pair[1])
				d.arm(n)
				d.step(false)
				if !d.m.dead {
					break
				}
				cuts++
				wantDead(t, d.r)
				for _, keep := range someKeeps(rnd) {
					c := d.copied()
					c.restore(keep)
					c.open()
					c.restore(rnd.Int())
					c.open()
					c.whole(one + "target q;")
					c.restore(0)
					c.open()
				}
			}
			if cuts == 0 {
				t.Errorf("the power never went")
			}
		}
	}
}

// The same with each set of writes that can last.
func TestPowerWithEachSetOfWrites(t *testing.T) {
	for _, pair := range [][2]string{{disks(24), longest()}, {longest(), one}} {
		for n := 0; ; n++ {
			d := lastStep(t, 1, pair[0], pair[1])
			d.arm(n)
			d.step(false)
			if !d.m.dead {
				break
			}
			for keep := range 1 << min(n+1, 14) {
				dev := *d.dev
				dev.Restore(keep)
				r, err := rack.Open(&dev)
				if err != api.OK {
					t.Fatalf("P7: Open behind Restore: %d", err)
				}
				if text, err := r.Config(); err != api.OK || !slices.Contains(d.m.may, text) {
					t.Fatalf("P12: power for %d calls, of the writes %b lasted: %q, %d, want one of %q", n, keep, text, err, d.m.may)
				}
			}
		}
	}
}

// P12: when Step has answered OK and 0, the plan's arrangement lasts, and none of its writes can be lost any more.
func TestWhatIsDoneLasts(t *testing.T) {
	for _, pair := range pairs {
		for plans := range 3 {
			d := lastStep(t, plans, pair[0], pair[1])
			wantStep(t, d.r, false, 0, api.OK)
			sorted, _ := oraclePrint(pair[1])
			for _, keep := range []int{0, 0, 1, -1, 0x5555} {
				c := d.copied()
				c.restore(keep)
				wantConfig(t, mustOpen(t, c.dev), sorted)
				wantConfig(t, mustOpen(t, c.dev), sorted)
			}
			wantConfig(t, mustOpen(t, d.dev), sorted)
		}
	}
}

// otherCalls: those that change nothing of what lasts, each at a place of the plan from one to other.
var otherCalls = []struct {
	name string
	done int // steps ahead of it; below 0: no plan is under way
	call func(d *drill)
}{
	{"Start", -1, func(d *drill) { d.start(other) }},
	{"Start without steps", -1, func(d *drill) { d.start(one) }},
	{"Start of no arrangement", -1, func(d *drill) { d.start("?") }},
	{"Step, idle", -1, func(d *drill) { d.step(false) }},
	{"a step that fails, idle", -1, func(d *drill) { d.step(true) }},
	{"Stop, idle", -1, func(d *drill) { d.stop() }},
	{"Start, busy", 3, func(d *drill) { d.start(longest()) }},
	{"the first step", 0, func(d *drill) { d.step(false) }},
	{"a step", 2, func(d *drill) { d.step(false) }},
	{"the last step but one", 4, func(d *drill) { d.step(false) }},
	{"a step that fails, the first", 0, func(d *drill) { d.step(true) }},
	{"a step that fails", 3, func(d *drill) { d.step(true) }},
	{"a step that fails, the last", 5, func(d *drill) { d.step(true) }},
	{"Stop at the beginning", 0, func(d *drill) { d.stop() }},
	{"Stop", 3, func(d *drill) { d.stop() }},
	{"Stop ahead of the last step", 5, func(d *drill) { d.stop() }},
}

// P12: whether the power goes in another call or behind it, what lasted ahead of it lasts.
func TestPowerInOtherCalls(t *testing.T) {
	for _, c := range otherCalls {
		for plans := range 2 {
			for n := range 40 {
				for _, keep := range []int{0, -1, 0x5555, 0x2aaa} {
					d := newDrill(t)
					d.whole(strings.Repeat("target y;", plans))
					d.whole(one)
					if c.done >= 0 {
						d.upTo(other, c.done)
					}
					d.arm(n)
					d.note("%s:", c.name)
					c.call(d)
					d.config()
					if d.m.dead {
						wantDead(t, d.r)
					}
					d.restore(keep)
					d.open()
					wantConfig(t, d.r, one)
				}
			}
		}
	}
}

// P7: Open answers ErrPower and no rack, if the power has gone ahead of it or goes within it, at each call; and changes nothing.
func TestPowerInOpen(t *testing.T) {
	for _, text := range []string{"", one, longest(), disks(24)} {
		for plans := range 2 {
			d := newDrill(t)
			d.whole(strings.Repeat("target y;", plans))
			d.whole(text)
			cuts := 0
			for n := 0; ; n++ {
				d.arm(n)
				d.open()
				if d.r != nil {
					break
				}
				cuts++
				for range 3 {
					d.open()
					if d.r != nil {
						t.Fatalf("P7: a rack without power")
					}
				}
				d.restore([]int{0, -1, 0x5555}[n%3])
				d.open()
				d.upTo(other, 3)
			}
			if cuts == 0 {
				t.Errorf("P7: Open with power for no call at all")
			}
		}
	}
}

// P12: Open breaks off again and again, behind a last step that broke off; what the first one that answers OK tells, all tell.
func TestOpenAgainAndAgain(t *testing.T) {
	rnd := rand.New(rand.NewSource(62))
	for n := range 25 {
		for range 20 {
			d := lastStep(t, n%3, disks(24), longest())
			d.arm(n)
			d.step(false)
			for range rnd.Intn(6) {
				d.restore(rnd.Int())
				d.arm(rnd.Intn(25))
				d.open()
			}
			d.restore(rnd.Int())
			d.open()
			lasts, _ := d.r.Config()
			for range 5 {
				d.restore(rnd.Int())
				d.arm(rnd.Intn(25))
				d.open()
				if d.r == nil {
					continue
				}
				wantConfig(t, d.r, lasts)
			}
		}
	}
}

// P7, P12: Open anew on a device whose power has not gone tells what lasts, not what is there, and takes nothing from it.
func TestOpenAnewWithPower(t *testing.T) {
	for _, pair := range pairs {
		lasts, _ := oraclePrint(pair[0])
		steps, _ := oraclePlan(pair[0], pair[1])
		for n := range steps {
			d := newDrill(t)
			d.whole(pair[0])
			d.upTo(pair[1], n)
			for range 3 {
				d.open()
				wantConfig(t, d.r, lasts)
				d.upTo(pair[1], n)
			}
			d.restore(n - 2)
			d.open()
			wantConfig(t, d.r, lasts)
			d.whole(pair[1])
			d.open()
		}
	}
}

// The power comes and goes between two calls: the rack has not met it, and goes on.
func TestPowerBetweenCalls(t *testing.T) {
	for n := range 6 {
		d := newDrill(t)
		d.whole(one)
		d.upTo(other, n)
		d.restore(-n % 2)
		d.config()
		for range 6 - n {
			d.step(false)
		}
		d.restore(0)
		d.config()
		d.open()
		wantConfig(t, d.r, other)
	}
}

// P12: a rack that has met the loss of power answers ErrPower for good, behind Restore too, and behind Open anew.
func TestADeadRackStaysDead(t *testing.T) {
	d := lastStep(t, 1, one, other)
	old := d.r
	d.arm(3)
	d.step(false)
	wantDead(t, old)
	d.restore(0)
	wantDead(t, old)
	d.open()
	wantDead(t, old)
	d.whole(longest())
	wantDead(t, old)
	d.config()
	d.open()
	d.config()
}

// P12: Config and the hosts' calls call the device not at all: with power for no call, it is still there behind them.
func TestCallsThatLeaveTheDevice(t *testing.T) {
	for n := range 6 {
		d := newDrill(t)
		d.whole(one)
		d.upTo(other, n)
		d.arm(0)
		for range 3 {
			d.config()
			if _, err := d.r.Config(); err != api.OK {
				t.Errorf("P12: Config with power: %d", err)
			}
			for i, told := range hostCalls(d.r) {
				if strings.HasSuffix(" "+told, " 7") {
					t.Errorf("P12: answer %d with power: %s", i, told)
				}
			}
		}
		if d.dev.Dead() {
			t.Errorf("P12: the device was called")
		}
	}
}

// openSessions: sessions at the arrangement of the document's examples, with what they can have: 0 has reserved the disk, 1 has logged out.
func (d *drill) openSessions() {
	d.t.Helper()
	d.login("x", "h")
	d.login("x", "h")
	d.login("x", "h")
	d.write(2, 0, 3, 9)
	d.reserve(0, 0)
	d.logout(1)
}

// P12: with sessions open, each of the hosts' calls answers ErrPower on a rack that has met that it has gone, behind Restore too; the rack that Open gives then has no sessions, all blocks are 0, and none is reserved.
func TestPowerWithSessions(t *testing.T) {
	for n := 0; ; n++ {
		d := newDrill(t)
		d.whole(one)
		d.openSessions()
		d.upTo(one+"map x h 5 1;", 0)
		d.arm(n)
		d.step(false)
		if !d.m.dead {
			d.list(0)
			d.list(0)
			break
		}
		for range 2 {
			for s := range 4 {
				d.login("x", "h")
				d.list(s)
				d.read(s, 0, 3)
				d.write(s, 0, 3, 1)
				d.reserve(s, 0)
				d.release(s, 0)
				d.logout(s)
			}
			wantDead(t, d.r)
			d.dev.Restore(-1)
		}
		d.open()
		wantNoSession(t, d.r, 0)
		wantLogin(t, d.r, "x", "h", 0, api.OK)
		wantLogin(t, d.r, "x", "h", 1, api.OK)
		wantRead(t, d.r, 1, 0, 3, 0, api.OK)
	}
}

// P12: with power for no call of the device, or with none at all, hosts go on as long as the rack has not met it.
func TestHostsGoOnWithoutTheDevice(t *testing.T) {
	for _, gone := range []bool{false, true} {
		d := newDrill(t)
		d.whole(one)
		d.upTo(one+"map x h 5 1;map x h 6 1;", 1)
		d.arm(0)
		if gone {
			d.dev.Flush()
		}
		d.openSessions()
		d.read(0, 0, 3)
		d.read(0, 5, 3)
		d.list(0)
		d.release(0, 0)
		d.reserve(2, 5)
		d.read(0, 0, 3)
		d.logout(2)
		d.read(0, 0, 3)
		wantRead(t, d.r, 0, 0, 3, 9, api.OK)
		if d.dev.Dead() != gone {
			t.Errorf("P12: the device was called")
		}
		wantStep(t, d.r, false, 0, api.ErrPower)
		wantDead(t, d.r)
	}
}

// P12: the power goes, and the rack has not met it yet: Config does not look.
func TestConfigWithoutPower(t *testing.T) {
	d := newDrill(t)
	d.whole(one)
	d.upTo(other, 5)
	d.arm(0)
	d.dev.Flush()
	wantConfig(t, d.r, d.m.now)
	wantStep(t, d.r, false, 0, api.ErrPower)
	wantDead(t, d.r)
	d.restore(-1)
	wantConfig(t, mustOpen(t, d.dev), one)
}

// P1: Open ends and gives a rack whatever stands on the device, and that rack's plans last.
func TestOpenOnAnyBytes(t *testing.T) {
	rnd := rand.New(rand.NewSource(63))
	for i := range 300 {
		dev := api.NewDevice()
		text := strings.Repeat(anyItems(rnd, 4)+"target x;", 1500)
		for k := range api.Sectors {
			b := []byte(text[k*api.Bytes : (k+1)*api.Bytes])
			if i%2 == 0 {
				rnd.Read(b)
			}
			dev.Write(k, b)
		}
		dev.Flush()
		r := mustOpen(t, dev)
		text, err := r.Config()
		if e, _ := oracleCheck(text); e != api.OK || err != api.OK {
			t.Fatalf("P1: Config() = %q, %d", text, err)
		}
		wantStart(t, r, other, api.OK)
		for left := 1; left > 0; {
			left, _ = r.Step(false)
		}
		dev.Restore(0)
		wantConfig(t, mustOpen(t, dev), other)
	}
}
