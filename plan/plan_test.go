package plan

import (
	"slices"
	"strings"
	"testing"

	"rack/api"
	"rack/arrange"
)

const one = "disk a 4;target x;lun x 1 a rw;host x h;map x h 0 1;"

func read(t *testing.T, text string) []arrange.Item {
	t.Helper()
	items, err, _ := arrange.Parse(text)
	if err != api.OK {
		t.Fatalf("%q is no arrangement: %d", text, err)
	}
	return items
}

func TestParseAndText(t *testing.T) {
	for _, text := range []string{"+disk a 4;", "-disk a 4;", "+target x;", "-lun x 1 a rw;", "+host x h;", "-map x h 0 1;"} {
		step, formed := Parse(text)
		if !formed || step.Adds != (text[0] == '+') || step.Item.Text != text[1:] || step.Text() != text {
			t.Errorf("Parse(%q) = %v, %v", text, step, formed)
		}
	}
}

func TestParseTellsNothingOfNoStep(t *testing.T) {
	for _, text := range []string{"", "+", "-", "disk a 4;", "*disk a 4;", "+disk a 4", "+disk a 4;;", "+disk a 4;disk b 4;", "+disk a 0;"} {
		if step, formed := Parse(text); formed || step != (Step{}) {
			t.Errorf("Parse(%q) = %v, %v", text, step, formed)
		}
	}
}

// behind: the lists with room behind them, to see whether it is written into.
func behind(items []arrange.Item) []arrange.Item {
	room := append(slices.Clone(items), arrange.Item{Text: "spare"}, arrange.Item{Text: "room"})
	return room[:len(items)]
}

func TestMakeLeavesItsLists(t *testing.T) {
	from := behind(read(t, "disk b 1;"+one))
	to := behind(read(t, "disk c 1;target z;"+strings.Replace(one, "a 4", "a 5", 1)))
	aheadFrom, aheadTo := slices.Clone(from[:len(from)+2]), slices.Clone(to[:len(to)+2])
	steps := Texts(Make(from, to))
	want := []string{"-map x h 0 1;", "-lun x 1 a rw;", "-disk a 4;", "-disk b 1;", "+disk a 5;", "+disk c 1;", "+target z;", "+lun x 1 a rw;", "+map x h 0 1;"}
	if !slices.Equal(steps, want) {
		t.Errorf("Make = %q", steps)
	}
	if !slices.Equal(from[:len(from)+2], aheadFrom) || !slices.Equal(to[:len(to)+2], aheadTo) {
		t.Errorf("Make has written into its lists: %v, %v", from, to)
	}
}

func TestDoLeavesItsList(t *testing.T) {
	for _, text := range []string{"+target y;", "-map x h 0 1;", "-disk a 4;", "+disk a 4;"} {
		items := behind(read(t, one))
		ahead := slices.Clone(items[:len(items)+2])
		step, _ := Parse(text)
		after, done := step.Do(items)
		if done != (text == "+target y;" || text == "-map x h 0 1;") || (!done && after != nil) {
			t.Errorf("%q: %v, %v", text, after, done)
		}
		for i := range after {
			after[i] = arrange.Item{}
		}
		if !slices.Equal(items[:len(items)+2], ahead) {
			t.Errorf("%q has written into its list: %v", text, items[:len(items)+2])
		}
	}
}

func TestOppositeUndoes(t *testing.T) {
	for _, text := range []string{"+target y;", "-map x h 0 1;"} {
		items := behind(read(t, one))
		ahead := slices.Clone(items[:len(items)+2])
		step, _ := Parse(text)
		after := step.After(items)
		done, fits := step.Do(items)
		if !fits || !slices.Equal(after, done) {
			t.Errorf("%q: After answers %v, Do %v, %v", text, after, done, fits)
		}
		back := step.Opposite()
		if back.Text()[1:] != text[1:] || back.Adds == step.Adds || back.Opposite() != step {
			t.Errorf("the opposite of %q is %q", text, back.Text())
		}
		if again := arrange.Print(back.After(after)); again != one {
			t.Errorf("there and back by %q: %q", text, again)
		}
		for i := range after {
			after[i] = arrange.Item{}
		}
		if !slices.Equal(items[:len(items)+2], ahead) {
			t.Errorf("%q has written into its list: %v", text, items[:len(items)+2])
		}
	}
}
