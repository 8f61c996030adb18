package session

import (
	"slices"
	"testing"

	"rack/api"
)

func wantBegin(t *testing.T, table *Table, target, host string, number int, err api.Errno) {
	t.Helper()
	if n, e := table.Begin(target, host); n != number || e != err {
		t.Errorf("Begin(%q, %q) = %d, %d, want %d, %d", target, host, n, e, number, err)
	}
}

func wantMeet(t *testing.T, table *Table, number int, want Session, err api.Errno) {
	t.Helper()
	if s, e := table.Meet(number); s != want || e != err {
		t.Errorf("Meet(%d) = %v, %d, want %v, %d", number, s, e, want, err)
	}
}

// full: as many sessions as there may be, of two targets and two hosts.
func full(t *testing.T) *Table {
	t.Helper()
	table := &Table{}
	for i := range api.MaxSessions {
		wantBegin(t, table, []string{"x", "y"}[i%2], []string{"h", "k"}[i/2%2], i, api.OK)
	}
	return table
}

func TestRoom(t *testing.T) {
	table := full(t)
	wantBegin(t, table, "x", "h", 0, api.ErrRoom)
	table.End(api.MaxSessions)
	table.End(-1)
	wantBegin(t, table, "x", "h", 0, api.ErrRoom)
	table.End(3)
	wantBegin(t, table, "x", "h", api.MaxSessions, api.OK)
	wantBegin(t, table, "x", "h", 0, api.ErrRoom)
	if table.Has(3) || !table.Has(2) || !table.Has(4) || !table.Has(api.MaxSessions) || table.Has(api.MaxSessions+1) || table.Has(-1) {
		t.Errorf("the sessions are %v", table.open)
	}
}

func TestNoNumberComesAgain(t *testing.T) {
	table := &Table{}
	for i := range 100 {
		wantBegin(t, table, "x", "h", i, api.OK)
		table.End(i)
		wantMeet(t, table, i, Session{}, api.ErrSession)
	}
}

func TestNewsIsMetOnce(t *testing.T) {
	table := full(t)
	table.Tell("x", "h")
	table.Tell("x", "h")
	table.Tell("z", "h")
	for i := range api.MaxSessions {
		want := Session{Number: i, Target: []string{"x", "y"}[i%2], Host: []string{"h", "k"}[i/2%2]}
		if want.Target == "x" && want.Host == "h" {
			wantMeet(t, table, i, Session{}, api.ErrChanged)
		}
		wantMeet(t, table, i, want, api.OK)
	}
	wantMeet(t, table, -1, Session{}, api.ErrSession)
	table.Tell("y", "k")
	table.End(3)
	wantMeet(t, table, 3, Session{}, api.ErrSession)
	wantMeet(t, table, 7, Session{}, api.ErrChanged)
}

func TestOf(t *testing.T) {
	table := full(t)
	for _, c := range []struct {
		target, host string
		want         []int
	}{
		{"x", "h", []int{0, 4}}, {"y", "h", []int{1, 5}}, {"x", "k", []int{2, 6}}, {"y", "k", []int{3, 7}}, {"h", "x", nil}, {"", "", nil}, {"x", "", nil},
	} {
		if got := table.Of(c.target, c.host); !slices.Equal(got, c.want) {
			t.Errorf("Of(%q, %q) = %v, want %v", c.target, c.host, got, c.want)
		}
	}
}
