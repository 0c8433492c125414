package session

import (
	"math"
	"slices"
	"testing"

	"stanchion/api"
)

// either: Open goes by whether the session is right, and a Load of it alone too.
func either(t *testing.T, s api.Session, right bool) {
	t.Helper()
	for _, b := range []*Book{New(), with(t, of(4, 2, 3), of(5, 1, 9))} {
		was := b.All()
		if !right {
			opens(t, b, api.ErrSession, s)
			refuses(t, s)
			continue
		}
		opens(t, b, api.OK, s)
		want := append(was, s)
		slices.SortFunc(want, func(x, y api.Session) int { return x.Client - y.Client })
		holds(t, b, want...)
		takes(t, s)
	}
}

// When a session is right, P12.1: its client is from 0 to 7.
func TestRightClient(t *testing.T) {
	for _, n := range far {
		if n != 4 && n != 5 {
			either(t, of(n, 10, 5), n >= 0 && n <= 7)
		}
		either(t, of(n, 0, 5), false)
	}
	for _, n := range []int{0, 1, 2, 3, 6, 7} {
		either(t, of(n, 10, 5), true)
	}
}

// When a session is right, P12.1: its span is from 1 to 1,000,000.
func TestRightSpan(t *testing.T) {
	for _, n := range far {
		either(t, of(2, n, 5), n >= 1 && n <= 1_000_000)
		either(t, of(2, n, latest), n >= 1 && n <= 1_000_000)
		either(t, of(8, n, 5), false)
	}
	either(t, api.Session{}, false)
	either(t, of(0, 1, 0), true)
	either(t, of(0, 500_000, 0), true)
}

// When a session is right, P12.1: it was seen from 0 to 2^40 - 1.
func TestRightSeen(t *testing.T) {
	for _, n := range far {
		either(t, of(2, 5, n), n >= 0 && n <= 1<<40-1)
		either(t, of(2, longest, n), n >= 0 && n <= 1<<40-1)
		either(t, of(-1, 5, n), false)
	}
	either(t, of(7, longest, latest), true)
}

// P12.1: what is opened is there, with its span and the time of its first sign.
func TestOpen(t *testing.T) {
	b := New()
	holds(t, b)
	opens(t, b, api.OK, of(3, 10, 5))
	holds(t, b, of(3, 10, 5))
	opens(t, b, api.OK, of(1, 20, 4))
	opens(t, b, api.OK, of(7, longest, 0), of(0, 1, latest))
	holds(t, b, of(0, 1, latest), of(1, 20, 4), of(3, 10, 5), of(7, longest, 0))
}

// P12.1: a client has one session; another is refused, though it is the same, or the first is over and nobody has said so.
func TestOpenThere(t *testing.T) {
	whole := crowd()
	b := with(t, whole...)
	opens(t, b, api.ErrThere, whole...)
	for client := range 8 {
		opens(t, b, api.ErrThere, of(client, 1, 0), of(client, longest, latest), of(client, 1, latest), of(client, longest, 0))
	}
	holds(t, b, whole...)
	b = with(t, of(3, 10, 5))
	opens(t, b, api.ErrThere, of(3, 1, 9), of(3, 10, 15), of(3, 10, latest))
	opens(t, b, api.OK, of(2, 10, 15))
	holds(t, b, of(2, 10, 15), of(3, 10, 5))
}

// P12.1, rule 2: what isn't right is told ahead of what is there.
func TestOpenOrder(t *testing.T) {
	b := with(t, crowd()...)
	for _, n := range far {
		if n < 1 || n > longest {
			opens(t, b, api.ErrSession, of(3, n, 5), of(0, n, 0), of(7, n, latest))
		}
		if n < 0 || n > latest {
			opens(t, b, api.ErrSession, of(3, 5, n), of(0, 1, n), of(7, longest, n))
		}
		if n < 0 || n > 7 {
			opens(t, b, api.ErrSession, of(n, 5, 5))
		}
	}
	holds(t, b, crowd()...)
}

// P12.1: a client whose session is gone may open another, of which nothing is as it was.
func TestOpenAgain(t *testing.T) {
	b := with(t, of(3, 10, 5), of(4, 10, 5))
	closes(t, b, []int{3}, 3)
	opens(t, b, api.OK, of(3, 2, 1))
	holds(t, b, of(3, 2, 1), of(4, 10, 5))
	expires(t, b, 3, 3)
	opens(t, b, api.OK, of(3, 7, 3))
	holds(t, b, of(3, 7, 3), of(4, 10, 5))
	if !b.Load([]api.Session{of(4, 1, 1)}) {
		t.Error("Load")
	}
	opens(t, b, api.OK, of(3, 8, 0))
	opens(t, b, api.ErrThere, of(4, 8, 0))
	holds(t, b, of(3, 8, 0), of(4, 1, 1))
}

// P12.1: a sign is kept if it is later than the last; nothing else changes, and no other session.
func TestTouch(t *testing.T) {
	b := with(t, of(1, 10, 5), of(2, 20, 5))
	for _, c := range [][2]int{{5, 5}, {6, 6}, {8, 8}, {2, 8}, {0, 8}, {7, 8}, {8, 8}, {9, 9}, {longest, longest}, {1, longest}, {latest - 1, latest - 1}, {latest, latest}, {0, latest}, {latest - 1, latest}, {latest, latest}} {
		touches(t, b, api.OK, 1, c[0])
		holds(t, b, of(1, 10, c[1]), of(2, 20, 5))
	}
	touches(t, b, api.OK, 2, 7)
	holds(t, b, of(1, 10, latest), of(2, 20, 7))
	for client := range 8 {
		b, want := with(t, crowd()...), crowd()
		touches(t, b, api.OK, client, 50)
		want[client].Seen = max(want[client].Seen, 50)
		holds(t, b, want...)
	}
}

// P12.1: a sign behind a session's end keeps it, if nobody has said yet that it is over.
func TestTouchLate(t *testing.T) {
	b := with(t, of(1, 10, 5))
	touches(t, b, api.OK, 1, 100)
	expires(t, b, 109)
	expires(t, b, 110, 1)
}

// P12.1: there is no sign of who has no session.
func TestTouchNone(t *testing.T) {
	touches(t, New(), api.ErrSession, 0, 0)
	b := with(t, of(1, 10, 5), of(6, 10, 5))
	for _, n := range far {
		if n != 1 && n != 6 {
			touches(t, b, api.ErrSession, n, 6)
			touches(t, b, api.ErrSession, n, -1)
			touches(t, b, api.ErrSession, n, latest+1)
		}
	}
	closes(t, b, []int{1}, 1)
	touches(t, b, api.ErrSession, 1, 6)
	expires(t, b, 15, 6)
	touches(t, b, api.ErrSession, 6, 6)
	holds(t, b)
}

// P12.1: there is no sign of a time that can't be, not even of one that is less than the last.
func TestTouchTime(t *testing.T) {
	for _, seen := range []int{0, 5, latest} {
		for _, n := range far {
			b := with(t, of(0, 10, 3), of(1, 10, seen))
			if n >= 0 && n <= latest {
				touches(t, b, api.OK, 1, n)
				holds(t, b, of(0, 10, 3), of(1, 10, max(seen, n)))
			} else {
				touches(t, b, api.ErrSession, 1, n)
				touches(t, b, api.ErrSession, 2, n)
				holds(t, b, of(0, 10, 3), of(1, 10, seen))
			}
		}
	}
	touches(t, with(t, of(1, 1, 0)), api.ErrSession, 1, math.MinInt)
}
