// Package session: the sessions of a rack's hosts.
package session

import "rack/api"

// Session is a host's session at a target.
type Session struct {
	Number int
	Target string
	Host   string
	news   bool // what the host sees there has changed, and the session has not been told
}

// Table is the sessions that there are now, the earliest first.
type Table struct {
	open []Session
	next int // the number of the next session; it only grows, so that no number comes again
}

// Begin answers the number of a new session, or ErrRoom.
func (t *Table) Begin(target string, host string) (int, api.Errno) {
	if len(t.open) >= api.MaxSessions {
		return 0, api.ErrRoom
	}
	number := t.next
	t.open = append(t.open, Session{Number: number, Target: target, Host: host})
	t.next++
	return number, api.OK
}

// Has tells whether there is a session with this number.
func (t *Table) Has(number int) bool {
	for i := 0; i < len(t.open); i++ {
		if t.open[i].Number == number {
			return true
		}
	}
	return false
}

// Meet answers a session, for a call that its news come ahead of: ErrSession, if there is none; ErrChanged, if it has news, and then it has none any more (P14).
func (t *Table) Meet(number int) (Session, api.Errno) {
	for i := 0; i < len(t.open); i++ {
		if t.open[i].Number != number {
			continue
		}
		if t.open[i].news {
			t.open[i].news = false
			return Session{}, api.ErrChanged
		}
		return t.open[i], api.OK
	}
	return Session{}, api.ErrSession
}

// End ends a session.
func (t *Table) End(number int) {
	var stay []Session
	for i := 0; i < len(t.open); i++ {
		if t.open[i].Number != number {
			stay = append(stay, t.open[i])
		}
	}
	t.open = stay
}

// Of answers the numbers of the sessions of a target and a host.
func (t *Table) Of(target string, host string) []int {
	var numbers []int
	for i := 0; i < len(t.open); i++ {
		if t.open[i].Target == target && t.open[i].Host == host {
			numbers = append(numbers, t.open[i].Number)
		}
	}
	return numbers
}

// Tell gives news to the sessions of a target and a host.
func (t *Table) Tell(target string, host string) {
	for i := 0; i < len(t.open); i++ {
		if t.open[i].Target == target && t.open[i].Host == host {
			t.open[i].news = true
		}
	}
}
