package rack_test

import (
	"fmt"
	"math/rand"
	"slices"
	"strings"
	"testing"

	"rack/api"
	"rack/rack"
)

// planCase: two arrangements, and the steps from the first to the second.
type planCase struct {
	from, to string
	steps    []string
}

func runPlans(t *testing.T, cases []planCase) {
	t.Helper()
	for _, c := range cases {
		steps, err := rack.Plan(c.from, c.to)
		if err != api.OK || !slices.Equal(steps, c.steps) {
			t.Errorf("P5: Plan(%q, %q) = %q, %d, want %q", c.from, c.to, steps, err, c.steps)
		}
	}
}

func TestPlanDocumentExamples(t *testing.T) {
	runPlans(t, []planCase{
		{"", one, []string{"+disk a 4;", "+target x;", "+lun x 1 a rw;", "+host x h;", "+map x h 0 1;"}},
		{one, strings.Replace(one, "a 4", "a 5", 1), []string{"-map x h 0 1;", "-lun x 1 a rw;", "-disk a 4;", "+disk a 5;", "+lun x 1 a rw;", "+map x h 0 1;"}},
		{one, one, nil},
	})
}

func TestPlanOrdinary(t *testing.T) {
	runPlans(t, []planCase{
		{one, "", []string{"-map x h 0 1;", "-host x h;", "-lun x 1 a rw;", "-target x;", "-disk a 4;"}},
		{"disk a 1;", "disk a 1;target x;", []string{"+target x;"}},
		{"disk a 1;target x;", "target x;", []string{"-disk a 1;"}},
		{"disk a 1;disk b 2;", "disk a 2;disk b 2;", []string{"-disk a 1;", "+disk a 2;"}},
		{"target a;", "disk a 1;", []string{"-target a;", "+disk a 1;"}},
	})
}

// What is gone takes with it what names it, directly and through another; each case changes one item that others name.
func TestPlanGoneThroughOthers(t *testing.T) {
	two := one + "disk b 4;target y;lun y 1 b rw;host y h;map y h 0 1;"
	runPlans(t, []planCase{
		{two, strings.Replace(two, "disk a 4", "disk a 9", 1), []string{"-map x h 0 1;", "-lun x 1 a rw;", "-disk a 4;", "+disk a 9;", "+lun x 1 a rw;", "+map x h 0 1;"}},
		{two, strings.Replace(two, "lun x 1 a rw", "lun x 1 a ro", 1), []string{"-map x h 0 1;", "-lun x 1 a rw;", "+lun x 1 a ro;", "+map x h 0 1;"}},
		{two, strings.Replace(two, "lun x 1 a rw", "lun x 1 b rw", 1), []string{"-map x h 0 1;", "-lun x 1 a rw;", "+lun x 1 b rw;", "+map x h 0 1;"}},
		{two + "lun x 2 b rw;", strings.Replace(two, "map x h 0 1", "map x h 0 2", 1) + "lun x 2 b rw;", []string{"-map x h 0 1;", "+map x h 0 2;"}},
		{two, strings.ReplaceAll(strings.ReplaceAll(two, " x ", " z "), " x;", " z;"), []string{"-map x h 0 1;", "-host x h;", "-lun x 1 a rw;", "-target x;", "+target z;", "+lun z 1 a rw;", "+host z h;", "+map z h 0 1;"}},
	})
	shared := "disk a 1;target x;target y;lun x 0 a rw;lun y 0 a ro;host x h;host y h;map x h 0 0;map y h 0 0;"
	runPlans(t, []planCase{{shared, strings.Replace(shared, "disk a 1", "disk a 2", 1), []string{"-map x h 0 0;", "-map y h 0 0;", "-lun x 0 a rw;", "-lun y 0 a ro;", "-disk a 1;", "+disk a 2;", "+lun x 0 a rw;", "+lun y 0 a ro;", "+map x h 0 0;", "+map y h 0 0;"}}})
}

// Items of one kind stand in order among the steps, however the texts have them.
func TestPlanOrder(t *testing.T) {
	all := "disk b 1;disk ab 1;disk a 1;target y;target x;lun y 0 a rw;lun x 7 a rw;lun x 2 b ro;host y a;host x b;host x a;map y a 0 0;map x b 0 7;map x a 3 2;map x a 1 7;"
	down := []string{"-map x a 1 7;", "-map x a 3 2;", "-map x b 0 7;", "-map y a 0 0;", "-host x a;", "-host x b;", "-host y a;", "-lun x 2 b ro;", "-lun x 7 a rw;", "-lun y 0 a rw;", "-target x;", "-target y;", "-disk a 1;", "-disk ab 1;", "-disk b 1;"}
	up := []string{"+disk a 1;", "+disk ab 1;", "+disk b 1;", "+target x;", "+target y;", "+lun x 2 b ro;", "+lun x 7 a rw;", "+lun y 0 a rw;", "+host x a;", "+host x b;", "+host y a;", "+map x a 1 7;", "+map x a 3 2;", "+map x b 0 7;", "+map y a 0 0;"}
	runPlans(t, []planCase{{all, "", down}, {"", all, up}})
	sorted, _ := rack.Print(all)
	runPlans(t, []planCase{{all, sorted, nil}, {sorted, all, nil}, {sorted, "", down}, {"", sorted, up}})
}

func TestPlanEdges(t *testing.T) {
	runPlans(t, []planCase{{"", "", nil}, {longest(), longest(), nil}, {disks(24), disks(24), nil}})
	steps, err := rack.Plan(disks(24), longest())
	if want, _ := oraclePlan(disks(24), longest()); err != api.OK || !slices.Equal(steps, want) || len(steps) < 40 {
		t.Errorf("P5: from one bound to the other: %q, %d", steps, err)
	}
}

func TestPlanRefuses(t *testing.T) {
	bad := []struct {
		text string
		err  api.Errno
	}{
		{tooLong(), api.ErrLong},
		{disks(25), api.ErrForm},
		{"+disk a 1;", api.ErrForm},
		{"disk a 1;disk a 1;", api.ErrTwice},
		{"host x h;", api.ErrRef},
	}
	for _, b := range bad {
		for _, good := range []string{"", one} {
			if steps, err := rack.Plan(b.text, good); len(steps) != 0 || err != b.err {
				t.Errorf("P5: Plan(%.100q, %q) = %q, %d, want %d", b.text, good, steps, err, b.err)
			}
			if steps, err := rack.Plan(good, b.text); len(steps) != 0 || err != b.err {
				t.Errorf("P5: Plan(%q, %.100q) = %q, %d, want %d", good, b.text, steps, err, b.err)
			}
		}
		for _, other := range bad {
			if steps, err := rack.Plan(b.text, other.text); len(steps) != 0 || err != b.err {
				t.Errorf("P5: Plan(%.100q, %.100q) = %q, %d, want the first one's %d", b.text, other.text, steps, err, b.err)
			}
		}
	}
}

// walkCase: an arrangement, steps, and what Walk answers.
type walkCase struct {
	from  string
	steps []string
	out   string
	n     int
	err   api.Errno
}

func runWalks(t *testing.T, cases []walkCase) {
	t.Helper()
	for _, c := range cases {
		out, n, err := rack.Walk(c.from, c.steps)
		if out != c.out || n != c.n || err != c.err {
			t.Errorf("P6: Walk(%.100q, %.100q) = %q, %d, %d, want %q, %d, %d", c.from, c.steps, out, n, err, c.out, c.n, c.err)
		}
	}
}

func TestWalkDocumentExamples(t *testing.T) {
	runWalks(t, []walkCase{
		{one, []string{"-host x h;"}, "", 0, api.ErrStep},
		{one, []string{"-map x h 0 1;", "-host x h;"}, "disk a 4;target x;lun x 1 a rw;", 2, api.OK},
		{one, []string{"-disk a 5;"}, "", 0, api.ErrStep},
	})
}

func TestWalkOrdinary(t *testing.T) {
	runWalks(t, []walkCase{
		{one, nil, one, 0, api.OK},
		{"", nil, "", 0, api.OK},
		{"", []string{}, "", 0, api.OK},
		{"target y;target x;disk a 1;", []string{}, "disk a 1;target x;target y;", 0, api.OK},
		{"", []string{"+target x;", "+disk b 2;", "+disk a 1;", "+lun x 3 b ro;"}, "disk a 1;disk b 2;target x;lun x 3 b ro;", 4, api.OK},
		{"disk a 1;", []string{"-disk a 1;"}, "", 1, api.OK},
		{"disk a 1;", []string{"-disk a 1;", "+disk a 2;"}, "disk a 2;", 2, api.OK},
		{"disk a 1;disk b 1;disk c 1;", []string{"-disk b 1;"}, "disk a 1;disk c 1;", 1, api.OK},
		{"", []string{"+target x;", "-target x;", "+target x;", "-target x;"}, "", 4, api.OK},
	})
}

func TestWalkRefusesPlus(t *testing.T) {
	runWalks(t, []walkCase{
		{one, []string{"+disk a 4;"}, "", 0, api.ErrStep},
		{one, []string{"+disk a 5;"}, "", 0, api.ErrStep},
		{one, []string{"+target x;"}, "", 0, api.ErrStep},
		{one, []string{"+disk b 1;", "+lun x 1 b ro;"}, "", 1, api.ErrStep},
		{one, []string{"+host x h;"}, "", 0, api.ErrStep},
		{one, []string{"+lun x 2 a ro;", "+map x h 0 2;"}, "", 1, api.ErrStep},
		{"disk a 1;", []string{"+lun x 1 a rw;"}, "", 0, api.ErrStep},
		{"target x;", []string{"+lun x 1 a rw;"}, "", 0, api.ErrStep},
		{"disk x 1;", []string{"+host x h;"}, "", 0, api.ErrStep},
		{one, []string{"+map x k 0 1;"}, "", 0, api.ErrStep},
		{one, []string{"+map x h 1 0;"}, "", 0, api.ErrStep},
		{one, []string{"-map x h 0 1;", "-host x h;", "+map x h 0 1;"}, "", 2, api.ErrStep},
		{one, []string{"-map x h 0 1;", "-lun x 1 a rw;", "+map x h 0 1;"}, "", 2, api.ErrStep},
		{"target x;", []string{"+host x h;", "+map x h 0 0;", "+lun x 0 a rw;", "+disk a 1;"}, "", 1, api.ErrStep},
	})
}

func TestWalkRefusesMinus(t *testing.T) {
	cases := []walkCase{
		{"", []string{"-disk a 1;"}, "", 0, api.ErrStep},
		{"disk a 1;", []string{"-disk b 1;"}, "", 0, api.ErrStep},
		{"disk a 1;", []string{"-target a;"}, "", 0, api.ErrStep},
		{"disk a 1;", []string{"-disk a 1;", "-disk a 1;"}, "", 1, api.ErrStep},
		{one, []string{"-map x h 0 2;"}, "", 0, api.ErrStep},
		{one, []string{"-map x h 0 1;", "-lun x 1 a ro;"}, "", 1, api.ErrStep},
		{one, []string{"-map x h 0 1;", "-lun x 1 b rw;"}, "", 1, api.ErrStep},
		{one, []string{"-map x h 0 1;", "-host x h;", "-target x;"}, "", 2, api.ErrStep},
		{one, []string{"-map x h 0 1;", "-lun x 1 a rw;", "-target x;"}, "", 2, api.ErrStep},
	}
	for _, named := range []string{"-disk a 4;", "-target x;", "-lun x 1 a rw;", "-host x h;"} {
		cases = append(cases, walkCase{one, []string{named}, "", 0, api.ErrStep})
	}
	runWalks(t, cases)
	runWalks(t, []walkCase{
		{"disk x 1;target x;host x x;", []string{"-disk x 1;"}, "target x;host x x;", 1, api.OK},
		{one + "lun x 0 a ro;", []string{"-lun x 0 a ro;"}, one, 1, api.OK},
		{one + "host x k;", []string{"-host x k;"}, one, 1, api.OK},
		{one + "target y;lun y 1 a ro;host y h;", []string{"-host y h;", "-lun y 1 a ro;", "-target y;"}, one, 3, api.OK},
	})
}

func TestWalkMaxItems(t *testing.T) {
	runWalks(t, []walkCase{
		{disks(23), []string{"+disk aaax 1;"}, disks(24), 1, api.OK},
		{disks(24), []string{"+target x;"}, "", 0, api.ErrStep},
		{disks(23), []string{"+disk aaax 1;", "+target x;"}, "", 1, api.ErrStep},
		{disks(24), []string{"-disk aaax 1;", "+target x;"}, disks(23) + "target x;", 2, api.OK},
		{disks(24), []string{"-disk aaax 1;", "+target x;", "+target y;"}, "", 2, api.ErrStep},
		{disks(24), nil, disks(24), 0, api.OK},
	})
	var steps []string
	for _, item := range splitItems(disks(24)) {
		steps = append(steps, "+"+item)
	}
	runWalks(t, []walkCase{
		{"", steps, disks(24), 24, api.OK},
		{"", append(steps, "+target x;"), "", 24, api.ErrStep},
	})
}

func TestWalkMaxText(t *testing.T) {
	sorted, _ := oraclePrint(longest())
	shorter, _ := oraclePrint(broad())
	runWalks(t, []walkCase{
		{broad(), []string{"+host tttt lll;"}, sorted, 1, api.OK},
		{broad(), []string{"+host tttt llll;"}, "", 0, api.ErrStep},
		{longest(), []string{"+target x;"}, "", 0, api.ErrStep},
		{longest(), []string{"-host tttt lll;"}, shorter, 1, api.OK},
		{longest(), []string{"-host tttt lll;", "+host tttt llll;"}, "", 1, api.ErrStep},
		{longest(), []string{"-host tttt lll;", "+host tttt lll;"}, sorted, 2, api.OK},
		{longest(), nil, sorted, 0, api.OK},
	})
}

func TestWalkNoStep(t *testing.T) {
	bad := []string{"", "+", "-", "*", " ", ";", "+;", "-;", "target y;", "*target y;", " +target y;", "+ target y;", "++target y;", "-+target y;", "+target y", "+target y;;", "+target y; ", "+target y;\n", "+target y;target z;", "-disk a 4;disk a 4;", "+target abcde;", "+disk b 0;", "+lun x 8 a rw;", "+lun x 2 a xx;", "+map x h 8 1;", "+map x h 1 8;", "+Target y;", "+\xff", "\u2212map x h 0 1;", "+target y;" + strings.Repeat("x", 1<<20), "+" + strings.Repeat("target y;", 1<<16)}
	for _, step := range bad {
		runWalks(t, []walkCase{
			{one, []string{step}, "", 0, api.ErrStep},
			{one, []string{"-map x h 0 1;", step}, "", 1, api.ErrStep},
			{one, []string{"-map x h 0 1;", "+target z;", step, "+target q;"}, "", 2, api.ErrStep},
		})
	}
}

// A fault of from is told ahead of a fault of a step, and with 0; of the steps the first that cannot be done is told.
func TestWalkFirstErrorFirst(t *testing.T) {
	for _, c := range []struct {
		from string
		err  api.Errno
	}{
		{tooLong(), api.ErrLong},
		{disks(25), api.ErrForm},
		{"target x;?", api.ErrForm},
		{"target x;disk a 1;target x;", api.ErrTwice},
		{"target x;host y h;", api.ErrRef},
	} {
		for _, steps := range [][]string{nil, {}, {"?"}, {"+target q;"}, {"+target q;", "?"}} {
			runWalks(t, []walkCase{{c.from, steps, "", 0, c.err}})
		}
	}
	runWalks(t, []walkCase{
		{one, []string{"+target y;", "?", "-disk a 4;", "?"}, "", 1, api.ErrStep},
		{one, []string{"+target y;", "-disk a 4;", "?"}, "", 1, api.ErrStep},
	})
}

// anyChange: an arrangement that another one could become: some items stay, some are dropped or changed, some come.
func anyChange(rnd *rand.Rand, text string) string {
	var items []string
	for _, item := range splitItems(text) {
		switch rnd.Intn(8) {
		case 0:
		case 1:
			items = append(items, anyItem(rnd))
		default:
			items = append(items, item)
		}
	}
	for range rnd.Intn(4) {
		items = append(items, anyItem(rnd))
	}
	return repair(items)
}

// repair drops items until there is an arrangement.
func repair(items []string) string {
	for {
		text := strings.Join(items, "")
		err, at := oracleCheck(text)
		if err == api.OK {
			return text
		}
		if err != api.ErrTwice && err != api.ErrRef {
			at = len(items) - 1
		}
		items = slices.Delete(items, at, at+1)
	}
}

// anySteps: steps of which many can be done, though not all.
func anySteps(rnd *rand.Rand, from string) []string {
	text, steps := from, []string{}
	for range rnd.Intn(30) {
		step := "+" + anyItem(rnd)
		if items := splitItems(text); len(items) > 0 && rnd.Intn(2) == 0 {
			step = "-" + items[rnd.Intn(len(items))]
		}
		if rnd.Intn(60) == 0 {
			step = spoil(rnd, step)
		}
		after, done := oracleStep(text, step)
		if done {
			text = after
		}
		if done || rnd.Intn(40) == 0 {
			steps = append(steps, step)
		}
	}
	return steps
}

func comparePlan(t *testing.T, from, to string) {
	t.Helper()
	want, wantErr := oraclePlan(from, to)
	if steps, err := rack.Plan(from, to); err != wantErr || !slices.Equal(steps, want) {
		t.Fatalf("P1, P5: Plan(%.450q, %.450q) = %q, %d, want %q, %d", from, to, steps, err, want, wantErr)
	}
}

func compareWalk(t *testing.T, from string, steps []string) api.Errno {
	t.Helper()
	want, wantN, wantErr := oracleWalk(from, steps)
	if out, n, err := rack.Walk(from, steps); out != want || n != wantN || err != wantErr {
		t.Fatalf("P1, P6: Walk(%.450q, %.450q) = %q, %d, %d, want %q, %d, %d", from, steps, out, n, err, want, wantN, wantErr)
	}
	return wantErr
}

func TestManyPlans(t *testing.T) {
	rnd := rand.New(rand.NewSource(11))
	for range 1500 {
		from := repair(splitItems(anyArrangement(rnd)))
		comparePlan(t, from, anyChange(rnd, from))
		comparePlan(t, from, anyArrangement(rnd))
		comparePlan(t, anyArrangement(rnd), from)
	}
	texts := manyTexts()
	for i, from := range texts {
		comparePlan(t, from, texts[(i*7+3)%len(texts)])
	}
}

func TestManyWalks(t *testing.T) {
	rnd := rand.New(rand.NewSource(12))
	done, refused := 0, 0
	for range 3000 {
		from := repair(splitItems(anyArrangement(rnd)))
		if compareWalk(t, from, anySteps(rnd, from)) == api.OK {
			done++
		} else {
			refused++
		}
	}
	if done < 500 || refused < 500 {
		t.Errorf("%d walks done and %d refused: the test has grown blind", done, refused)
	}
}

// P1: any texts as steps, at an arrangement that has room and at those that have none.
func TestWalkAnyTexts(t *testing.T) {
	texts := manyTexts()
	for _, text := range texts {
		for _, step := range []string{text, "+" + text, "-" + text} {
			compareWalk(t, one, []string{step})
			compareWalk(t, one, []string{"-map x h 0 1;", "+target b;", step, step})
		}
		compareWalk(t, text, []string{"+target q;"})
	}
	for a := range 256 {
		for b := range 256 {
			compareWalk(t, one, []string{string([]byte{byte(a), byte(b)})})
		}
		for _, step := range []string{"+lun x 2 a ro;", "-map x h 0 1;"} {
			for n := range step {
				compareWalk(t, one, []string{step[:n] + string([]byte{byte(a)}) + step[n+1:]})
				compareWalk(t, one, []string{step[:n] + string([]byte{byte(a)}) + step[n:]})
			}
		}
	}
	compareWalk(t, one, texts)
	runWalks(t, []walkCase{{one, slices.Repeat([]string{"+target z;", "-target z;"}, 100000), one, 200000, api.OK}})
}

func opposite(step string) string {
	if step[0] == '+' {
		return "-" + step[1:]
	}
	return "+" + step[1:]
}

// checkFollows holds two arrangements against the first point of P18.
func checkFollows(t *testing.T, from, to string) {
	t.Helper()
	start, _ := oraclePrint(from)
	end, _ := oraclePrint(to)
	steps, err := rack.Plan(from, to)
	if out, n, walkErr := rack.Walk(from, steps); err != api.OK || out != end || n != len(steps) || walkErr != api.OK {
		t.Fatalf("P18: the plan from %q to %q leads to %q, %d, %d, %d", from, to, out, n, err, walkErr)
	}
	var back []string
	for i := range len(steps) + 1 {
		middle, n, err := rack.Walk(from, steps[:i])
		if e, _ := oracleCheck(middle); err != api.OK || n != i || e != api.OK {
			t.Fatalf("P18: behind %q of %q: %q, %d, %d", steps[:i], from, middle, n, err)
		}
		if i > 0 {
			back = append([]string{opposite(steps[i-1])}, back...)
		}
		if out, n, err := rack.Walk(middle, back); out != start || n != i || err != api.OK {
			t.Fatalf("P18: back from %q by %q: %q, %d, %d, want %q", middle, back, out, n, err, start)
		}
		both := append(slices.Clone(steps[:i]), back...)
		if out, n, err := rack.Walk(from, both); out != start || n != 2*i || err != api.OK {
			t.Fatalf("P18: there and back by %q: %q, %d, %d, want %q", both, out, n, err, start)
		}
	}
}

func checkNoSteps(t *testing.T, text string) {
	t.Helper()
	sorted, _ := oraclePrint(text)
	for _, c := range [][2]string{{text, text}, {text, sorted}, {sorted, text}} {
		if steps, err := rack.Plan(c[0], c[1]); len(steps) != 0 || err != api.OK {
			t.Fatalf("P18: Plan(%q, %q) = %q, %d, want no steps", c[0], c[1], steps, err)
		}
	}
}

func TestWhatFollows(t *testing.T) {
	rnd := rand.New(rand.NewSource(13))
	edges := []string{"", one, broad(), longest(), disks(24), disks(1)}
	for _, from := range edges {
		checkNoSteps(t, from)
		for _, to := range edges {
			checkFollows(t, from, to)
		}
	}
	for range 150 {
		from := repair(splitItems(anyArrangement(rnd)))
		checkNoSteps(t, from)
		checkFollows(t, from, anyChange(rnd, from))
		checkFollows(t, from, repair(splitItems(anyArrangement(rnd))))
	}
}

// P2: Walk's list stays as it was, and what stands behind it.
func TestWalkLeavesItsList(t *testing.T) {
	for _, n := range []int{0, 1, 2, 4} {
		room := []string{"-map x h 0 1;", "-host x h;", "+target y;", "+host y h;", "spare", "room"}
		ahead := slices.Clone(room)
		rack.Walk(one, room[:n])
		rack.Walk("?", room[:n])
		if !slices.Equal(room, ahead) {
			t.Errorf("P2: Walk of %d steps has written into its list or behind it: %q", n, room)
		}
	}
	room := []string{"+target y;", "?", "spare"}
	rack.Walk(one, room[:2])
	if !slices.Equal(room, []string{"+target y;", "?", "spare"}) {
		t.Errorf("P2: a Walk that fails has written into its list or behind it: %q", room)
	}
}

// P2: Plan's list is the caller's, with its spare room: nothing that is written there is seen again.
func TestPlanAnswersAFreshList(t *testing.T) {
	want, _ := oraclePlan(one, longest())
	first, _ := rack.Plan(one, longest())
	second, _ := rack.Plan(one, longest())
	room := first[:cap(first)]
	for i := range room {
		room[i] = "spoilt"
	}
	third, _ := rack.Plan(one, longest())
	if !slices.Equal(second, want) || !slices.Equal(third, want) {
		t.Errorf("P2: Plan = %q and %q, want %q", second, third, want)
	}
}

// P2: what is answered hangs on the arguments alone, whatever was asked ahead of it.
func TestPlansHangOnTheirArgumentsAlone(t *testing.T) {
	rnd := rand.New(rand.NewSource(14))
	var questions [][2]string
	var answers []string
	ask := func(q [2]string) string {
		steps, err := rack.Plan(q[0], q[1])
		out, n, walkErr := rack.Walk(q[0], steps)
		return fmt.Sprintf("%q %d %q %d %d", steps, err, out, n, walkErr)
	}
	for range 500 {
		q := [2]string{anyArrangement(rnd), anyArrangement(rnd)}
		questions = append(questions, q)
		answers = append(answers, ask(q))
	}
	for i := len(questions) - 1; i >= 0; i-- {
		q := questions[i]
		again := ask([2]string{strings.Clone(q[0]), strings.Clone(q[1])})
		if again != answers[i] {
			t.Fatalf("P2: of %q first %s, then %s", q, answers[i], again)
		}
	}
}

func FuzzPlan(f *testing.F) {
	f.Add("", one)
	f.Add(one, strings.Replace(one, "a 4", "a 5", 1))
	f.Add(disks(24), longest())
	f.Fuzz(func(t *testing.T, from, to string) {
		comparePlan(t, from, to)
		fromErr, _ := oracleCheck(from)
		toErr, _ := oracleCheck(to)
		if fromErr == api.OK && toErr == api.OK {
			checkFollows(t, from, to)
		}
	})
}

// FuzzWalk takes the steps as one text, a line each.
func FuzzWalk(f *testing.F) {
	f.Add(one, "-map x h 0 1;\n-host x h;")
	f.Add("", "+target x;\n+host x h;\n-target x;")
	f.Add(disks(24), "-disk aaaa 1;\n+target x;\n+target y;")
	f.Add(broad(), "+host tttt lll;")
	f.Fuzz(func(t *testing.T, from, steps string) { compareWalk(t, from, strings.Split(steps, "\n")) })
}
