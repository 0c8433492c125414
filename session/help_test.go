package session

import (
	"fmt"
	"math"
	"slices"
	"testing"

	"stanchion/api"
)

const (
	longest = 1_000_000 // the greatest span
	latest  = 1<<40 - 1 // the greatest time of a sign
)

// far: numbers at both ends, at the edges that the chapter names, and such as come to others in fewer bits.
var far = []int{
	math.MinInt, math.MinInt + 1, -1 << 62, -1 << 40, -longest, -1 << 32, -256, -8, -2, -1, 0, 1, 2, 3, 6, 7, 8, 9, 255, 256, 257,
	longest - 1, longest, longest + 1, 1 << 31, 1 << 32, 1<<32 + 1, 1<<32 + 3, latest - 1, latest, latest + 1, latest + 2,
	latest + longest - 1, latest + longest, latest + longest + 1, api.MaxNum - 1, api.MaxNum, 1<<62 + 1, math.MaxInt - 1, math.MaxInt,
}

// of: a session.
func of(client, span, seen int) api.Session {
	return api.Session{Client: client, Span: span, Seen: seen}
}

// same: is the list this one, but for how its memory stands?
func same[T comparable](t *testing.T, call string, got []T, want ...T) {
	t.Helper()
	if !slices.Equal(got, want) {
		t.Errorf("%s: %v, not %v", call, got, want)
	}
}

// holds: has the book these sessions, and no others? All and Live tell.
func holds(t *testing.T, b *Book, want ...api.Session) {
	t.Helper()
	same(t, "All", b.All(), want...)
	for client := -1; client <= 8; client++ {
		live := slices.ContainsFunc(want, func(s api.Session) bool { return s.Client == client })
		if b.Live(client) != live {
			t.Errorf("Live(%d): %t", client, !live)
		}
	}
}

// opens: Open answers this of each; if it is an error, nothing has changed.
func opens(t *testing.T, b *Book, want api.Errno, list ...api.Session) {
	t.Helper()
	for _, s := range list {
		was := b.All()
		if e := b.Open(s.Client, s.Span, s.Seen); e != want {
			t.Errorf("Open(%d, %d, %d): %d, not %d", s.Client, s.Span, s.Seen, e, want)
		}
		if want != api.OK {
			holds(t, b, was...)
		}
	}
}

// touches: Touch answers this; if it is an error, nothing has changed.
func touches(t *testing.T, b *Book, want api.Errno, client, now int) {
	t.Helper()
	was := b.All()
	if e := b.Touch(client, now); e != want {
		t.Errorf("Touch(%d, %d): %d, not %d", client, now, e, want)
	}
	if want != api.OK {
		holds(t, b, was...)
	}
}

// expires: Expire answers these, and they are gone; those that are left are as they were.
func expires(t *testing.T, b *Book, now int, want ...int) {
	t.Helper()
	left := without(b.All(), want...)
	same(t, fmt.Sprintf("Expire(%d)", now), b.Expire(now), want...)
	holds(t, b, left...)
}

// closes: Close answers these, and they are gone; those that are left are as they were.
func closes(t *testing.T, b *Book, clients []int, want ...int) {
	t.Helper()
	left := without(b.All(), want...)
	same(t, fmt.Sprintf("Close(%v ..)", clients[:min(len(clients), 8)]), b.Close(clients...), want...)
	holds(t, b, left...)
}

// without: the sessions but for those of these clients.
func without(list []api.Session, clients ...int) []api.Session {
	var left []api.Session
	for _, s := range list {
		if !slices.Contains(clients, s.Client) {
			left = append(left, s)
		}
	}
	return left
}

// with: a book of these sessions, opened in their order.
func with(t *testing.T, list ...api.Session) *Book {
	t.Helper()
	b := New()
	opens(t, b, api.OK, list...)
	return b
}

// crowd: as many sessions as there may be, by rising clients; the odd ones' last signs came late.
func crowd() []api.Session {
	var list []api.Session
	for client := range 8 {
		list = append(list, of(client, 10+client, 100*(client%2)))
	}
	return list
}
