package rack_test

import (
	"fmt"
	"math/rand"
	"slices"
	"testing"

	"rack/api"
	"rack/rack"
)

// model: what a rack must answer and what must last, by the document's words, on texts alone.
type model struct {
	may  []string // what may last: one, or two behind a last step in which the power went
	now  string
	plan []string // of the plan under way: what is there ahead of it, and behind each of its steps
	done int
	dead bool
	hall hall
}

// known: the plans so far, by their two arrangements, for the oracle is slow.
var known = map[[2]string][]string{}

// oracleRun: what is there ahead of a plan, and behind each of its steps.
func oracleRun(from, to string) ([]string, api.Errno) {
	steps, err := oraclePlan(from, to)
	if err != api.OK {
		return nil, err
	}
	run := known[[2]string{from, to}]
	for len(run) <= len(steps) {
		text, _, _ := oracleWalk(from, steps[:len(run)])
		run = append(run, text)
	}
	if len(known) > 5000 {
		clear(known)
	}
	known[[2]string{from, to}] = run
	return run, api.OK
}

// busy tells whether a plan is under way.
func (m *model) busy() bool { return !m.dead && m.done+1 < len(m.plan) }

// last tells whether Step(false) would do the plan's last step.
func (m *model) last() bool { return m.busy() && m.done+2 == len(m.plan) }

func (m *model) start(text string) api.Errno {
	if m.dead {
		return api.ErrPower
	}
	if m.busy() {
		return api.ErrBusy
	}
	plan, err := oracleRun(m.now, text)
	m.plan, m.done = plan, 0
	return err
}

func (m *model) step(fail bool) (int, api.Errno) {
	if m.dead {
		return 0, api.ErrPower
	}
	if !m.busy() {
		return 0, api.ErrIdle
	}
	if fail {
		m.stop()
		return 0, api.ErrStep
	}
	m.done++
	m.now = m.plan[m.done]
	m.hall.turn(m.plan[m.done-1], m.now)
	if !m.busy() {
		m.may = []string{m.now}
	}
	return len(m.plan) - 1 - m.done, api.OK
}

func (m *model) stop() api.Errno {
	if m.dead {
		return api.ErrPower
	}
	if !m.busy() {
		return api.ErrIdle
	}
	for i := m.done; i > 0; i-- {
		m.hall.turn(m.plan[i], m.plan[i-1])
	}
	m.now, m.plan, m.done = m.plan[0], nil, 0
	return api.OK
}

// drill: a rack on a device, beside a model of it. What was done so far is kept, to be told where an answer is wrong.
type drill struct {
	t   *testing.T
	dev *api.Device
	r   *rack.Rack
	m   model
	log []string
	met [2]int // how often an Open told, of the two that might last, the first one and the second

	told [7][18]int // how often each call of hosts told each error
}

func newDrill(t *testing.T) *drill {
	d := &drill{t: t, dev: api.NewDevice(), m: model{may: []string{""}}}
	d.open()
	return d
}

func (d *drill) note(format string, args ...any) { d.log = append(d.log, fmt.Sprintf(format, args...)) }

func (d *drill) fail(format string, args ...any) {
	d.t.Helper()
	d.t.Fatalf("%s\nbehind %.4000q", fmt.Sprintf(format, args...), d.log)
}

// open begins a rack anew. There may be no power for that, and no rack then.
func (d *drill) open() {
	d.t.Helper()
	d.note("Open")
	r, err := rack.Open(d.dev)
	if (err == api.ErrPower) != d.dev.Dead() || (r == nil) != (err != api.OK) || (err != api.OK && err != api.ErrPower) {
		d.fail("P7: Open: a rack: %v, %d; has the power gone: %v", r != nil, err, d.dev.Dead())
	}
	d.r = r
	if r == nil {
		return
	}
	text, err := r.Config()
	if err != api.OK || !slices.Contains(d.m.may, text) {
		d.fail("P7, P12, P18: Config behind Open: %q, %d, want one of %q", text, err, d.m.may)
	}
	if len(d.m.may) == 2 {
		d.met[slices.Index(d.m.may, text)]++
	}
	d.m = model{may: []string{text}, now: text, hall: newHall()}
}

// cut tells whether the power went in a call that answered err; if so, the rack and its model are dead.
func (d *drill) cut(err api.Errno, may []string) bool {
	d.t.Helper()
	if d.m.dead || !d.dev.Dead() {
		return false
	}
	if err != api.ErrPower {
		d.fail("P12: the power has gone, and the call answers %d", err)
	}
	d.note("(no power)")
	d.m = model{may: may, dead: true}
	return true
}

func (d *drill) start(text string) {
	d.t.Helper()
	d.note("Start(%.60q)", text)
	may := d.m.may
	err := d.r.Start(text)
	if d.cut(err, may) {
		return
	}
	if want := d.m.start(text); err != want {
		d.fail("P9: Start(%.450q) = %d, want %d", text, err, want)
	}
}

func (d *drill) step(fail bool) {
	d.t.Helper()
	d.note("Step(%v)", fail)
	may := d.m.may
	if d.m.last() && !fail {
		may = append(slices.Clone(may), d.m.plan[d.m.done+1])
	}
	n, err := d.r.Step(fail)
	if d.cut(err, may) {
		if n != 0 {
			d.fail("P1: Step(%v) = %d with an error", fail, n)
		}
		return
	}
	if want, wantErr := d.m.step(fail); n != want || err != wantErr {
		d.fail("P10: Step(%v) = %d, %d, want %d, %d", fail, n, err, want, wantErr)
	}
}

func (d *drill) stop() {
	d.t.Helper()
	d.note("Stop")
	may := d.m.may
	err := d.r.Stop()
	if d.cut(err, may) {
		return
	}
	if want := d.m.stop(); err != want {
		d.fail("P11: Stop() = %d, want %d", err, want)
	}
}

// config: it is told what is there, and the device is not called.
func (d *drill) config() {
	d.t.Helper()
	gone := d.dev.Dead()
	text, err := d.r.Config()
	want, wantErr := d.m.now, api.OK
	if d.m.dead {
		want, wantErr = "", api.ErrPower
	}
	if text != want || err != wantErr {
		d.fail("P8: Config() = %q, %d, want %q, %d", text, err, want, wantErr)
	}
	if d.dev.Dead() != gone {
		d.fail("P12: Config has called the device")
	}
}

func (d *drill) arm(n int) {
	d.note("Arm(%d)", n)
	d.dev.Arm(n)
}

func (d *drill) restore(keep int) {
	d.note("Restore(%x)", keep)
	d.dev.Restore(keep)
}

// whole does a plan from its beginning to its end.
func (d *drill) whole(text string) {
	d.t.Helper()
	d.start(text)
	for d.m.busy() {
		d.step(false)
		d.config()
	}
}

// upTo begins a plan and does n of its steps.
func (d *drill) upTo(text string, n int) {
	d.t.Helper()
	d.start(text)
	for range n {
		d.step(false)
	}
	d.config()
}

// someText: mostly an arrangement that is near to what is there, now and then one that is not, or none at all.
func someText(rnd *rand.Rand, now string) string {
	edges := []string{"", one, longest(), disks(24), disks(25), tooLong(), "disk a 0;", "target x;target x;", "host x h;"}
	switch rnd.Intn(12) {
	case 0:
		return now
	case 1:
		return edges[rnd.Intn(len(edges))]
	case 2:
		return spoil(rnd, anyArrangement(rnd))
	case 3:
		return repair(splitItems(anyArrangement(rnd)))
	case 4:
		return anyBytes(rnd)
	case 5, 6, 7:
		return repair([]string{anyItem(rnd), anyItem(rnd), anyItem(rnd)})
	}
	return anyChange(rnd, now)
}

// run does what the bytes say, one call each.
func (d *drill) run(rnd *rand.Rand, calls []byte) {
	for _, call := range calls {
		if d.r == nil {
			d.restore(rnd.Int() ^ -rnd.Intn(2))
			d.open()
			continue
		}
		d.call(rnd, call)
		if d.r != nil {
			d.config()
		}
	}
}

func (d *drill) call(rnd *rand.Rand, call byte) {
	switch call % 32 {
	case 0, 1, 2, 3, 4:
		d.start(someText(rnd, d.m.now))
	case 5:
		d.step(true)
	case 6:
		d.stop()
	case 7:
		d.open()
	case 8:
		d.restore(rnd.Int() ^ -rnd.Intn(2))
	case 9, 10:
		d.restore(rnd.Int() ^ -rnd.Intn(2))
		d.open()
	case 11, 12:
		d.arm(rnd.Intn(20))
	case 13, 14, 15, 16:
		for d.m.busy() {
			d.step(false)
		}
	case 17, 18:
		for d.m.busy() && !d.m.last() {
			d.step(false)
		}
	case 19:
		d.arm(-1)
	default:
		d.step(false)
	}
}

func TestManyCallsInAnyOrder(t *testing.T) {
	rnd := rand.New(rand.NewSource(31))
	olds, news := 0, 0
	for range 600 {
		calls := make([]byte, rnd.Intn(120))
		rnd.Read(calls)
		d := newDrill(t)
		d.run(rnd, calls)
		olds += d.met[0]
		news += d.met[1]
	}
	if olds < 100 || news < 10 {
		t.Errorf("behind a last step without power, Open told the old arrangement %d times and the new one %d times: the test has grown blind", olds, news)
	}
}

func FuzzRack(f *testing.F) {
	f.Add(int64(1), []byte{0, 20, 20, 5, 0, 13, 11, 0, 17, 20, 9})
	f.Add(int64(2), []byte{1, 17, 11, 20, 10, 7, 7, 2, 6, 3, 13, 8, 7})
	f.Fuzz(func(t *testing.T, seed int64, calls []byte) {
		newDrill(t).run(rand.New(rand.NewSource(seed)), calls[:min(len(calls), 300)])
	})
}
