package rack_test

import (
	"math/rand"
	"strings"
	"testing"
	"unsafe"

	"rack/api"
	"rack/rack"
)

// other: the arrangement of the document's examples, but for the size of its disk: six steps from there.
var other = strings.Replace(one, "a 4", "a 5", 1)

func wantStep(t *testing.T, r *rack.Rack, fail bool, n int, err api.Errno) {
	t.Helper()
	if m, e := r.Step(fail); m != n || e != err {
		t.Errorf("P10: Step(%v) = %d, %d, want %d, %d", fail, m, e, n, err)
	}
}

func wantStart(t *testing.T, r *rack.Rack, text string, err api.Errno) {
	t.Helper()
	if e := r.Start(text); e != err {
		t.Errorf("P9: Start(%.100q) = %d, want %d", text, e, err)
	}
}

func wantStop(t *testing.T, r *rack.Rack, err api.Errno) {
	t.Helper()
	if e := r.Stop(); e != err {
		t.Errorf("P11: Stop() = %d, want %d", e, err)
	}
}

func wantConfig(t *testing.T, r *rack.Rack, text string) {
	t.Helper()
	if s, e := r.Config(); s != text || e != api.OK {
		t.Errorf("P8: Config() = %q, %d, want %q", s, e, text)
	}
}

func mustOpen(t *testing.T, dev *api.Device) *rack.Rack {
	t.Helper()
	r, e := rack.Open(dev)
	if r == nil || e != api.OK {
		t.Fatalf("P7: Open: a rack: %v, %d", r != nil, e)
	}
	return r
}

func TestRackDocumentExamples(t *testing.T) {
	dev := api.NewDevice()
	r := mustOpen(t, dev)
	wantStart(t, r, one, api.OK)
	for _, left := range []int{4, 3, 2} {
		wantStep(t, r, false, left, api.OK)
	}
	wantConfig(t, r, "disk a 4;target x;lun x 1 a rw;")
	wantStep(t, r, false, 1, api.OK)
	wantStep(t, r, false, 0, api.OK)
	wantStep(t, r, false, 0, api.ErrIdle)
	wantStart(t, r, one+"map x h 5 1;", api.OK)
	wantStep(t, r, false, 0, api.OK)
	wantStart(t, r, "disk a 4;target x;lun x 1 a rw;", api.OK)
	wantStep(t, r, false, 2, api.OK)
	wantConfig(t, r, "disk a 4;target x;lun x 1 a rw;host x h;map x h 5 1;")
	wantStep(t, r, true, 0, api.ErrStep)
	wantConfig(t, r, one+"map x h 5 1;")
	wantConfig(t, mustOpen(t, dev), one+"map x h 5 1;")
}

// P7: a new device has the empty arrangement, and no plan is under way on a rack that begins, whatever was under way on the one ahead of it.
func TestOpenBeginsWithoutAPlan(t *testing.T) {
	for _, text := range []string{"", one, longest(), "", disks(24)} {
		d := newDrill(t)
		d.whole(text)
		d.upTo(other, 2)
		d.open()
		d.step(false)
		d.stop()
		d.whole(other)
		d.open()
	}
	r := mustOpen(t, api.NewDevice())
	wantConfig(t, r, "")
	wantStep(t, r, false, 0, api.ErrIdle)
	wantStep(t, r, true, 0, api.ErrIdle)
	wantStop(t, r, api.ErrIdle)
	wantConfig(t, r, "")
}

// P8: with each step that is done, Config tells what Walk does, in order, and as a text that Check takes.
func TestConfigFollowsTheSteps(t *testing.T) {
	rnd := rand.New(rand.NewSource(41))
	edges := []string{"", one, other, longest(), disks(24)}
	d := newDrill(t)
	for i := range 200 {
		from, _ := d.r.Config()
		to := anyChange(rnd, from)
		if i%4 == 0 {
			to = edges[rnd.Intn(len(edges))]
		}
		steps, _ := rack.Plan(from, to)
		wantStart(t, d.r, to, api.OK)
		for k := range steps {
			walked, _, _ := rack.Walk(from, steps[:k])
			wantConfig(t, d.r, walked)
			wantConfig(t, d.r, walked)
			wantStep(t, d.r, false, len(steps)-k-1, api.OK)
		}
		sorted, _ := oraclePrint(to)
		wantConfig(t, d.r, sorted)
		wantStep(t, d.r, false, 0, api.ErrIdle)
	}
}

// P9: a plan of no steps is none: the next one can begin at once.
func TestStartWithoutSteps(t *testing.T) {
	for _, text := range []string{"", one, longest(), disks(24)} {
		d := newDrill(t)
		d.whole(text)
		sorted, _ := oraclePrint(text)
		for _, same := range []string{text, sorted, strings.Join(reversed(splitItems(text)), "")} {
			wantStart(t, d.r, same, api.OK)
			wantStart(t, d.r, same, api.OK)
			wantStep(t, d.r, false, 0, api.ErrIdle)
			wantStep(t, d.r, true, 0, api.ErrIdle)
			wantStop(t, d.r, api.ErrIdle)
			wantConfig(t, d.r, sorted)
		}
		d.whole(other)
		d.open()
	}
}

func reversed(items []string) []string {
	var back []string
	for i := len(items) - 1; i >= 0; i-- {
		back = append(back, items[i])
	}
	return back
}

// badTexts: one for each error that Check has, and one for each two of them.
var badTexts = []struct {
	text string
	err  api.Errno
}{
	{tooLong(), api.ErrLong},
	{strings.Repeat("?", 401), api.ErrLong},
	{strings.Repeat("target x;", 45), api.ErrLong},
	{disks(25), api.ErrForm},
	{"?", api.ErrForm},
	{"target x;target x;host y h;?", api.ErrForm},
	{"target x;target x;", api.ErrTwice},
	{"host y h;target x;target x;", api.ErrTwice},
	{"host x h;", api.ErrRef},
}

// P9, P1: ErrBusy ahead of the error of Check; with an error nothing has changed, neither with a plan under way nor without.
func TestStartRefuses(t *testing.T) {
	d := newDrill(t)
	d.whole(one)
	for _, bad := range badTexts {
		wantStart(t, d.r, bad.text, bad.err)
		d.config()
		wantStep(t, d.r, false, 0, api.ErrIdle)
		wantStop(t, d.r, api.ErrIdle)
	}
	d.start(other)
	for n := range 6 {
		for _, bad := range badTexts {
			wantStart(t, d.r, bad.text, api.ErrBusy)
		}
		for _, good := range []string{"", one, other, d.m.now, longest()} {
			wantStart(t, d.r, good, api.ErrBusy)
		}
		d.config()
		wantStep(t, d.r, false, 5-n, api.OK)
		d.m.step(false)
	}
	wantConfig(t, d.r, other)
}

// P1: any text in Start.
func TestStartAnyText(t *testing.T) {
	d := newDrill(t)
	for i, text := range manyTexts() {
		d.start(text)
		if i%3 == 0 {
			d.step(false)
		}
		d.config()
		if i%5 > 0 {
			d.stop()
		} else {
			d.step(true)
		}
		d.config()
	}
	for a := range 256 {
		for n := range one {
			d.start(one[:n] + string([]byte{byte(a)}) + one[n+1:])
			d.stop()
		}
	}
	d.config()
	d.open()
	wantConfig(t, d.r, "")
}

// P10, P11: a plan is undone behind none, some and all but one of its steps, by a step that fails and by Stop; then there is no plan, what is there is what was there, the same lasts, and the next plan can begin.
func TestUndoAtEachPlace(t *testing.T) {
	for _, pair := range [][2]string{{"", one}, {one, ""}, {one, other}, {disks(24), longest()}, {longest(), disks(24)}, {"", "target x;"}} {
		steps, _ := oraclePlan(pair[0], pair[1])
		for n := range steps {
			for _, fails := range []bool{true, false} {
				d := newDrill(t)
				d.whole(pair[0])
				d.upTo(pair[1], n)
				if fails {
					wantStep(t, d.r, true, 0, api.ErrStep)
				} else {
					wantStop(t, d.r, api.OK)
				}
				d.m.stop()
				d.config()
				wantStep(t, d.r, false, 0, api.ErrIdle)
				wantStep(t, d.r, true, 0, api.ErrIdle)
				wantStop(t, d.r, api.ErrIdle)
				d.config()
				d.whole(pair[1])
				d.upTo(pair[0], n/2)
				d.stop()
				d.config()
				d.open()
			}
		}
	}
}

// P10: a step that fails ends one plan alone; those behind it are not held back, and undo no more than their own steps.
func TestUndoIsOfOnePlan(t *testing.T) {
	d := newDrill(t)
	d.whole(one)
	d.whole(other)
	d.upTo("", 3)
	wantStep(t, d.r, true, 0, api.ErrStep)
	wantConfig(t, d.r, other)
	wantStart(t, d.r, one, api.OK)
	wantStep(t, d.r, false, 5, api.OK)
	wantStop(t, d.r, api.OK)
	wantConfig(t, d.r, other)
	wantConfig(t, mustOpen(t, d.dev), other)
}

// P9, P10, P12: arrangements at the bounds are planned, done and stored like any other.
func TestArrangementsAtTheBounds(t *testing.T) {
	d := newDrill(t)
	for _, text := range []string{longest(), disks(24), longest(), broad(), disks(23), longest(), "", disks(24)} {
		d.whole(text)
		d.restore(0)
		d.open()
		sorted, _ := oraclePrint(text)
		wantConfig(t, d.r, sorted)
		d.start(tooLong())
		d.start(disks(25))
		d.config()
	}
}

// P2: racks on two devices know nothing of each other.
func TestTwoRacks(t *testing.T) {
	a, b := newDrill(t), newDrill(t)
	a.whole(one)
	a.start("")
	b.start(disks(24))
	for range 4 {
		a.step(false)
		b.step(false)
		a.config()
		b.config()
	}
	a.arm(0)
	a.step(false)
	b.step(false)
	b.config()
	b.stop()
	b.config()
	b.whole(longest())
	b.open()
	a.restore(0)
	a.open()
}

// P2: what a rack answers hangs on the calls on it: the same calls have the same answers, whatever other racks were asked meanwhile.
func TestTheSameCallsHaveTheSameAnswers(t *testing.T) {
	calls := make([]byte, 400)
	rand.New(rand.NewSource(51)).Read(calls)
	first, second := newDrill(t), newDrill(t)
	first.run(rand.New(rand.NewSource(52)), calls)
	newDrill(t).whole(longest())
	second.run(rand.New(rand.NewSource(52)), calls)
	if strings.Join(first.log, "\n") != strings.Join(second.log, "\n") || first.m.now != second.m.now {
		t.Errorf("P2: %q\n%q", first.log, second.log)
	}
}

// P2: Start's text is the caller's: what becomes of its bytes changes nothing.
func TestStartKeepsNothingOfItsText(t *testing.T) {
	dev := api.NewDevice()
	r := mustOpen(t, dev)
	for _, text := range []string{one, other, longest()} {
		bytes := []byte(text)
		wantStart(t, r, unsafe.String(&bytes[0], len(bytes)), api.OK)
		for i := range bytes {
			bytes[i] = '?'
		}
		for left := 1; left > 0; {
			left, _ = r.Step(false)
		}
		sorted, _ := oraclePrint(text)
		wantConfig(t, r, sorted)
		wantConfig(t, mustOpen(t, dev), sorted)
	}
}
