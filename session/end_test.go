package session

import (
	"math"
	"slices"
	"testing"

	"stanchion/api"
)

// The chapter's example, P12.2.
func TestExample(t *testing.T) {
	b := with(t, of(3, 10, 5))
	expires(t, b, 14)
	expires(t, b, 15, 3)
	expires(t, b, 15)
	expires(t, b, math.MaxInt)
}

// P12.2: a session ends at its last sign and its span together, no sooner.
func TestExpireEdge(t *testing.T) {
	for _, span := range []int{1, 2, 10, longest - 1, longest} {
		for _, seen := range []int{0, 1, 5, longest, 1 << 32, latest - 1, latest} {
			for _, n := range append([]int{span, seen, seen + span - 1, seen + span, seen + span + 1}, far...) {
				b := with(t, of(6, span, seen))
				if n >= seen+span {
					expires(t, b, n, 6)
				} else {
					expires(t, b, n)
				}
			}
		}
	}
}

// P12.2: a later sign puts the end off; one that is not later does not.
func TestExpireTouched(t *testing.T) {
	b := with(t, of(1, 10, 5), of(2, 10, 5))
	touches(t, b, api.OK, 1, 8)
	touches(t, b, api.OK, 2, 4)
	touches(t, b, api.ErrSession, 2, -1)
	expires(t, b, 14)
	expires(t, b, 15, 2)
	expires(t, b, 17)
	expires(t, b, 18, 1)
}

// P12.2: those that end come by rising clients, whatever order they were opened in, and whichever ended first.
func TestExpireOrder(t *testing.T) {
	for _, turn := range []int{1, 3, 5, 7} {
		b := New()
		for i := range 8 {
			client := i * turn % 8
			opens(t, b, api.OK, of(client, 20-client, 0))
		}
		expires(t, b, 12)
		expires(t, b, 15, 5, 6, 7)
		opens(t, b, api.OK, of(6, 1, 1))
		expires(t, b, 18, 2, 3, 4, 6)
		expires(t, b, 20, 0, 1)
		holds(t, b)
	}
}

// P12.2: of all sessions just those end that are over.
func TestExpireSome(t *testing.T) {
	b := with(t, crowd()...)
	expires(t, b, math.MinInt)
	expires(t, b, -1)
	expires(t, b, 0)
	expires(t, b, 9)
	expires(t, b, 10, 0)
	expires(t, b, 13, 2)
	expires(t, b, 110, 4, 6)
	expires(t, b, 111, 1)
	expires(t, b, math.MaxInt, 3, 5, 7)
	// A time that has been told is not kept.
	opens(t, b, api.OK, of(1, 1, 0))
	expires(t, b, 0)
	holds(t, b, of(1, 1, 0))
}

// P12.2: those of the clients that have a session, by rising clients.
func TestClose(t *testing.T) {
	b := with(t, of(3, 10, 5), of(0, 10, 5), of(6, 10, 5), of(1, 10, 5))
	closes(t, b, nil)
	closes(t, b, []int{})
	closes(t, b, []int{2, 4, 5, 7})
	closes(t, b, []int{1}, 1)
	closes(t, b, []int{1})
	closes(t, b, []int{7, 6, 5, 0}, 0, 6)
	closes(t, b, []int{0, 1, 2, 3, 4, 5, 6, 7}, 3)
	holds(t, b)
	closes(t, b, []int{0, 1, 2, 3, 4, 5, 6, 7})
}

// P12.2: a client that is told twice is closed once.
func TestCloseTwice(t *testing.T) {
	b := with(t, crowd()...)
	closes(t, b, []int{5, 5, 2, 5, 2, 9, 9, 0}, 0, 2, 5)
	closes(t, b, []int{5, 5, 2, 1, 1}, 1)
	closes(t, b, []int{7, 6, 4, 3, 3, 4, 6, 7}, 3, 4, 6, 7)
	holds(t, b)
}

// P12.2: each client by itself, out of all that there may be.
func TestCloseEach(t *testing.T) {
	for client := range 8 {
		b := with(t, crowd()...)
		closes(t, b, []int{client}, client)
		closes(t, b, []int{client})
		opens(t, b, api.OK, of(client, 1, 1))
		closes(t, b, []int{7, 6, 5, 4, 3, 2, 1, 0}, 0, 1, 2, 3, 4, 5, 6, 7)
		holds(t, b)
	}
}

// P12.2, P1: what is no client has no session.
func TestCloseOthers(t *testing.T) {
	others := slices.DeleteFunc(slices.Clone(far), func(n int) bool { return n >= 0 && n <= 7 })
	b := with(t, crowd()...)
	for _, n := range others {
		closes(t, b, []int{n})
		closes(t, b, []int{n, n})
	}
	closes(t, b, others)
	holds(t, b, crowd()...)
	closes(t, b, append(others, 3), 3)
}

// P1: clients may be many.
func TestCloseMany(t *testing.T) {
	b := with(t, crowd()...)
	clients := make([]int, 1<<22)
	for i := range clients {
		clients[i] = 8 + i
	}
	closes(t, b, clients)
	clients[len(clients)-1] = 2
	clients[0] = 6
	closes(t, b, clients, 2, 6)
}

// P12.3: only who has a session is live, though it is over and nobody has said so.
func TestLive(t *testing.T) {
	live := func(b *Book, clients ...int) {
		t.Helper()
		for _, n := range append([]int{4, 5}, far...) {
			if got, want := b.Live(n), slices.Contains(clients, n); got != want {
				t.Errorf("Live(%d): %t", n, got)
			}
		}
	}
	b := New()
	live(b)
	opens(t, b, api.OK, of(0, 10, 5))
	live(b, 0)
	opens(t, b, api.OK, of(7, 1, 5))
	opens(t, b, api.ErrSession, of(6, 0, 5))
	live(b, 0, 7)
	touches(t, b, api.OK, 0, 1000)
	live(b, 0, 7)
	expires(t, b, 100, 7)
	live(b, 0)
	closes(t, b, []int{0}, 0)
	live(b)
	if !b.Load(crowd()) {
		t.Error("Load")
	}
	live(b, 0, 1, 2, 3, 4, 5, 6, 7)
}
