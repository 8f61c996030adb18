package rack_test

import (
	"math/rand"
	"strings"
	"testing"

	"rack/api"
	"rack/rack"
)

// checkCase: a text, and what Check answers.
type checkCase struct {
	text string
	err  api.Errno
	at   int
}

func runChecks(t *testing.T, cases []checkCase) {
	t.Helper()
	for _, c := range cases {
		if err, at := rack.Check(c.text); err != c.err || at != c.at {
			t.Errorf("P3: Check(%.100q) = %d, %d, want %d, %d", c.text, err, at, c.err, c.at)
		}
	}
}

func TestCheckOrdinary(t *testing.T) {
	runChecks(t, []checkCase{
		{"", api.OK, 0},
		{one, api.OK, 0},
		{"disk a 1;disk b 9;", api.OK, 0},
		{"lun x 0 a ro;lun x 7 a rw;disk a 1;target x;", api.OK, 0},
		{"map x h 0 7;map x h 7 7;host x h;lun x 7 a ro;disk a 1;target x;", api.OK, 0},
		{"disk x 1;target x;host x x;lun x 0 x rw;map x x 0 0;", api.OK, 0},
	})
}

func TestCheckDocumentExamples(t *testing.T) {
	runChecks(t, []checkCase{
		{one, api.OK, 0},
		{"disk a 0;", api.ErrForm, 7},
		{"disk abcde 1;", api.ErrForm, 9},
		{"lun x 1 a rw", api.ErrForm, 12},
		{"target x;target x;", api.ErrTwice, 1},
		{"lun x 1 a rw;target x;", api.ErrRef, 0},
	})
}

func TestCheckMaxText(t *testing.T) {
	if len(longest()) != api.MaxText || len(tooLong()) != api.MaxText+1 {
		t.Fatalf("the inputs have %d and %d bytes", len(longest()), len(tooLong()))
	}
	runChecks(t, []checkCase{
		{longest(), api.OK, 0},
		{tooLong(), api.ErrLong, 0},
		{strings.Repeat("?", api.MaxText), api.ErrForm, 0},
		{strings.Repeat("?", api.MaxText+1), api.ErrLong, 0},
		{longest()[:api.MaxText-1], api.ErrForm, api.MaxText - 1},
		{longest()[:api.MaxText-1] + "l", api.ErrForm, 400},
		{longest()[:api.MaxText-1] + " ", api.ErrForm, api.MaxText - 1},
	})
}

func TestCheckMaxItems(t *testing.T) {
	runChecks(t, []checkCase{
		{disks(23), api.OK, 0},
		{disks(24), api.OK, 0},
		{disks(25), api.ErrForm, 288},
		{disks(24) + "d", api.ErrForm, 288},
		{disks(24) + "?", api.ErrForm, 288},
		{disks(23) + "disk", api.ErrForm, 280},
		{disks(23) + "target z;" + disks(1), api.ErrForm, 285},
		{strings.Repeat("target x;", 24), api.ErrTwice, 1},
		{strings.Repeat("target x;", 25), api.ErrForm, 216},
	})
}

func TestCheckMaxName(t *testing.T) {
	for _, shape := range []string{"disk N 1;", "target N;", "lun N 1 a rw;", "lun x 1 N rw;", "host N h;", "host x N;", "map N h 1 2;", "map x N 1 2;"} {
		place := strings.IndexByte(shape, 'N')
		with := func(name string) string { return strings.Replace(shape, "N", name, 1) }
		for _, name := range []string{"a", "zz", "amz", "zzzz"} {
			if err, _ := rack.Check(with(name)); err == api.ErrForm {
				t.Errorf("P3: Check(%q): a name of %d letters is refused", with(name), len(name))
			}
		}
		runChecks(t, []checkCase{
			{with(""), api.ErrForm, place},
			{with("abcde"), api.ErrForm, place + 4},
			{with("abcdefgh"), api.ErrForm, place + 4},
			{with("A"), api.ErrForm, place},
			{with("aB"), api.ErrForm, place + 1},
			{with("`"), api.ErrForm, place},
			{with("abc{"), api.ErrForm, place + 3},
			{with("a1"), api.ErrForm, place + 1},
			{with("\u00e9"), api.ErrForm, place},
		})
	}
}

func TestCheckDigits(t *testing.T) {
	for _, c := range []struct{ shape, good string }{
		{"disk a D;", "123456789"},
		{"lun x D a rw;", "01234567"},
		{"map x h D 1;", "01234567"},
		{"map x h 1 D;", "01234567"},
	} {
		place := strings.IndexByte(c.shape, 'D')
		for b := range 256 {
			text := strings.Replace(c.shape, "D", string([]byte{byte(b)}), 1)
			err, at := rack.Check(text)
			if good := strings.IndexByte(c.good, byte(b)) >= 0; good == (err == api.ErrForm) {
				t.Errorf("P3: Check(%q) = %d, %d", text, err, at)
			} else if !good && at != place {
				t.Errorf("P3: Check(%q): place %d, want %d", text, at, place)
			}
		}
		runChecks(t, []checkCase{
			{strings.Replace(c.shape, "D", "", 1), api.ErrForm, place},
			{strings.Replace(c.shape, "D", "11", 1), api.ErrForm, place + 1},
		})
	}
}

func TestCheckEndsTooEarly(t *testing.T) {
	text := one + "lun x 2 a ro;"
	for n := range text {
		if n > 0 && text[n-1] != ';' {
			runChecks(t, []checkCase{{text[:n], api.ErrForm, n}})
		}
	}
}

func TestCheckEachByteWrong(t *testing.T) {
	text := one + "lun x 2 a ro;"
	for n := range text {
		for _, b := range []string{"\x00", "\n", "\t", "?", "Z", "8", "-", "\x80", "\xff"} {
			if b == "8" && n == 7 {
				continue // a size may be 8
			}
			runChecks(t, []checkCase{{text[:n] + b + text[n+1:], api.ErrForm, n}, {text[:n] + b, api.ErrForm, n}})
		}
	}
	for _, b := range []string{" ", ";", "\n", "x", "\x00"} {
		runChecks(t, []checkCase{{text + b, api.ErrForm, len(text)}, {b + text, api.ErrForm, 0}})
	}
}

func TestCheckTwice(t *testing.T) {
	runChecks(t, []checkCase{
		{"disk a 1;disk a 2;", api.ErrTwice, 1},
		{"disk a 1;disk b 1;disk b 1;disk a 1;", api.ErrTwice, 2},
		{"target x;disk x 1;target x;", api.ErrTwice, 2},
		{"target x;disk a 1;disk b 1;lun x 1 a rw;lun x 1 b ro;", api.ErrTwice, 4},
		{"target x;target y;host x h;host y h;host x k;host y h;", api.ErrTwice, 5},
		{"disk a 1;target x;lun x 1 a rw;lun x 2 a rw;host x h;map x h 0 1;map x h 0 2;", api.ErrTwice, 6},
	})
	runChecks(t, []checkCase{
		{"target x;target y;disk a 1;lun x 1 a rw;lun x 2 a rw;lun y 1 a rw;", api.OK, 0},
		{"target x;target y;host x y;host y x;host x x;", api.OK, 0},
		{"disk a 1;target x;lun x 1 a rw;host x h;host x k;map x h 0 1;map x k 0 1;map x h 1 1;", api.OK, 0},
	})
}

func TestCheckRef(t *testing.T) {
	runChecks(t, []checkCase{
		{"disk a 1;lun x 1 a rw;", api.ErrRef, 1},
		{"target x;lun x 1 a rw;", api.ErrRef, 1},
		{"target a;disk x 1;lun x 1 a rw;", api.ErrRef, 2},
		{"disk x 1;host x h;", api.ErrRef, 1},
		{"target h;host x h;host y h;", api.ErrRef, 1},
		{"disk a 1;target x;lun x 1 a rw;map x h 0 1;", api.ErrRef, 3},
		{"disk a 1;target x;target y;lun x 1 a rw;lun y 1 a rw;host y h;map x h 0 1;", api.ErrRef, 6},
		{"disk a 1;target x;lun x 1 a rw;host x h;map x h 1 0;", api.ErrRef, 4},
		{"disk a 1;target x;target y;lun y 0 a rw;host x h;map x h 0 0;", api.ErrRef, 5},
		{"map x h 0 1;" + strings.Replace(one, "target x;", "", 1), api.ErrTwice, 4},
		{"target x;host x h;host y h;host z h;", api.ErrRef, 2},
	})
}

func TestCheckFirstErrorFirst(t *testing.T) {
	runChecks(t, []checkCase{
		{strings.Repeat("target x;", 44) + "?????", api.ErrLong, 0},
		{"target x;target x;host y h;?", api.ErrForm, 27},
		{"host y h;target x;target x;", api.ErrTwice, 2},
		{"host y h;lun x 0 a rw;", api.ErrRef, 0},
		{"disk a 0;disk b 0;", api.ErrForm, 7},
	})
}

func TestPrintOrdinary(t *testing.T) {
	for _, c := range []struct{ text, want string }{
		{"", ""},
		{one, one},
		{"map x h 0 1;lun x 1 a rw;host x h;target x;disk a 4;", one},
		{"target x;disk b 1;disk ab 2;disk a 3;", "disk a 3;disk ab 2;disk b 1;target x;"},
		{"disk aaaa 1;disk aaa 9;disk b 1;disk aab 1;disk a 1;", "disk a 1;disk aaa 9;disk aaaa 1;disk aab 1;disk b 1;"},
		{"target b;target a;host b a;host a b;host a a;host b ab;", "target a;target b;host a a;host a b;host b a;host b ab;"},
		{"target b;target a;disk z 1;disk y 1;lun b 0 y rw;lun a 7 y rw;lun a 2 z ro;", "disk y 1;disk z 1;target a;target b;lun a 2 z ro;lun a 7 y rw;lun b 0 y rw;"},
		{"disk a 1;target x;lun x 0 a ro;lun x 5 a rw;host x k;host x h;map x k 0 5;map x h 7 0;map x h 1 5;map x h 2 0;", "disk a 1;target x;lun x 0 a ro;lun x 5 a rw;host x h;host x k;map x h 1 5;map x h 2 0;map x h 7 0;map x k 0 5;"},
	} {
		if got, err := rack.Print(c.text); got != c.want || err != api.OK {
			t.Errorf("P4: Print(%q) = %q, %d, want %q", c.text, got, err, c.want)
		}
	}
}

func TestPrintEdges(t *testing.T) {
	for _, text := range []string{longest(), disks(24)} {
		items := splitItems(text)
		backward := ""
		for _, item := range items {
			backward = item + backward
		}
		want, _ := oraclePrint(text)
		if got, err := rack.Print(backward); got != want || err != api.OK {
			t.Errorf("P4: Print(%q) = %q, %d, want %q", backward, got, err, want)
		}
	}
}

func TestPrintRefuses(t *testing.T) {
	for _, c := range []struct {
		text string
		err  api.Errno
	}{
		{tooLong(), api.ErrLong},
		{disks(25), api.ErrForm},
		{"disk abcde 1;", api.ErrForm},
		{"disk a 1", api.ErrForm},
		{"\xff", api.ErrForm},
		{"disk a 1;disk a 1;", api.ErrTwice},
		{"disk a 1;host x h;", api.ErrRef},
	} {
		if got, err := rack.Print(c.text); got != "" || err != c.err {
			t.Errorf("P4: Print(%.100q) = %q, %d, want the empty text and %d", c.text, got, err, c.err)
		}
	}
}

// Print of the same items in any order is one text, of as many bytes, and stays so.
func TestPrintShuffled(t *testing.T) {
	rnd := rand.New(rand.NewSource(3))
	for range 2000 {
		text := anyArrangement(rnd)
		want, err := rack.Print(text)
		if err != api.OK {
			continue
		}
		items := splitItems(text)
		rnd.Shuffle(len(items), func(i, j int) { items[i], items[j] = items[j], items[i] })
		shuffled := strings.Join(items, "")
		if got, _ := rack.Print(shuffled); got != want || len(got) != len(text) {
			t.Fatalf("P4: Print(%q) = %q, but of %q %q", shuffled, got, text, want)
		}
		if got, _ := rack.Print(want); got != want {
			t.Fatalf("P4: Print(%q) = %q", want, got)
		}
	}
}

// compare holds Check and Print of a text against the oracle; with an error Print's text is empty (P1).
func compare(t *testing.T, text string) {
	t.Helper()
	wantErr, wantAt := oracleCheck(text)
	if err, at := rack.Check(text); err != wantErr || at != wantAt {
		t.Fatalf("P1, P3: Check(%.450q) = %d, %d, want %d, %d", text, err, at, wantErr, wantAt)
	}
	wantText, _ := oraclePrint(text)
	if got, err := rack.Print(text); got != wantText || err != wantErr {
		t.Fatalf("P1, P4: Print(%.450q) = %q, %d, want %q, %d", text, got, err, wantText, wantErr)
	}
}

func TestManyTexts(t *testing.T) {
	var seen [5]int
	for _, text := range manyTexts() {
		compare(t, text)
		err, _ := oracleCheck(text)
		seen[err]++
	}
	for err, n := range seen {
		if n < 100 {
			t.Errorf("only %d of the texts have the error %d: the test has grown blind", n, err)
		}
	}
}

// P1: all texts of up to two bytes, and each byte at each place of an arrangement.
func TestAnyBytes(t *testing.T) {
	compare(t, "")
	for a := range 256 {
		compare(t, string([]byte{byte(a)}))
		for b := range 256 {
			compare(t, string([]byte{byte(a), byte(b)}))
		}
		for n := range one {
			compare(t, one[:n]+string([]byte{byte(a)})+one[n+1:])
			compare(t, one[:n]+string([]byte{byte(a)})+one[n:])
		}
	}
}

// P2: what is answered hangs on the text alone, whatever was asked ahead of it.
func TestAnswersHangOnTheTextAlone(t *testing.T) {
	texts := manyTexts()
	type answer struct {
		checkErr, printErr api.Errno
		at                 int
		text               string
	}
	ask := func(text string) answer {
		var a answer
		a.checkErr, a.at = rack.Check(text)
		a.text, a.printErr = rack.Print(text)
		return a
	}
	answers := make([]answer, len(texts))
	for i, text := range texts {
		answers[i] = ask(text)
	}
	for i := len(texts) - 1; i >= 0; i-- {
		first := ask(texts[i])
		again := ask(strings.Clone(texts[i]))
		if first != answers[i] || again != answers[i] {
			t.Fatalf("P2: of %.450q first %v, then %v, then %v", texts[i], answers[i], first, again)
		}
	}
}

func FuzzCheckAndPrint(f *testing.F) {
	for _, text := range []string{"", one, longest(), tooLong(), disks(24), disks(25)} {
		f.Add(text)
	}
	f.Fuzz(func(t *testing.T, text string) { compare(t, text) })
}
