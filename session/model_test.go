package session

import (
	"fmt"
	"math/rand"
	"slices"
	"testing"

	"stanchion/api"
)

// model is sessions by the chapter's words: a place for each client that there may be.
type model [8]struct {
	there      bool
	span, seen int
}

// within: is n from low to high?
func within(n, low, high int) bool { return low <= n && n <= high }

// rightly: may there be such a session?
func rightly(s api.Session) bool {
	return within(s.Client, 0, 7) && within(s.Span, 1, 1000000) && within(s.Seen, 0, 1099511627775)
}

// live: what Live tells.
func (m *model) live(client int) bool {
	return within(client, 0, 7) && m[client].there
}

// open: what Open tells.
func (m *model) open(client, span, now int) api.Errno {
	switch {
	case !rightly(of(client, span, now)):
		return 120
	case m[client].there:
		return 101
	}
	m[client].there, m[client].span, m[client].seen = true, span, now
	return 0
}

// touch: what Touch tells.
func (m *model) touch(client, now int) api.Errno {
	if !m.live(client) || !within(now, 0, 1099511627775) {
		return 120
	}
	if now > m[client].seen {
		m[client].seen = now
	}
	return 0
}

// expire: what Expire tells.
func (m *model) expire(now int) []int {
	var list []int
	for client := range m {
		if m[client].there && m[client].seen+m[client].span <= now {
			m[client].there = false
			list = append(list, client)
		}
	}
	return list
}

// close: what Close tells.
func (m *model) close(clients []int) []int {
	var list []int
	for client := range m {
		if m[client].there && slices.Index(clients, client) >= 0 {
			m[client].there = false
			list = append(list, client)
		}
	}
	return list
}

// all: what All tells.
func (m *model) all() []api.Session {
	var list []api.Session
	for client, s := range m {
		if s.there {
			list = append(list, of(client, s.span, s.seen))
		}
	}
	return list
}

// load: what Load tells.
func (m *model) load(list []api.Session) bool {
	var other model
	least := 0
	for _, s := range list {
		if !rightly(s) || s.Client < least {
			return false
		}
		least = s.Client + 1
		other.open(s.Client, s.Span, s.Seen)
	}
	*m = other
	return true
}

// mostly: this number, but now and then another.
func mostly(r *rand.Rand, n int) int {
	if r.Intn(25) == 0 {
		return far[r.Intn(len(far))]
	}
	return n
}

// someSession: mostly a right one.
func someSession(r *rand.Rand, now int) api.Session {
	return of(mostly(r, r.Intn(8)), mostly(r, 1+r.Intn(60)), mostly(r, now))
}

// someList: mostly what a book has, with a change or two.
func someList(r *rand.Rand, m *model, now int) []api.Session {
	list := m.all()
	for range r.Intn(4) {
		s := someSession(r, now)
		at := r.Intn(len(list) + 1)
		if r.Intn(3) > 0 {
			list = without(list, s.Client)
			at = 0
			for at < len(list) && list[at].Client < s.Client {
				at++
			}
		}
		list = slices.Insert(list, at, s)
	}
	return list
}

// step: one call on both, the same in words on both, and what it came to.
func step(r *rand.Rand, b *Book, m *model, now int) (got, want, what string) {
	tell := func(x ...any) string { return fmt.Sprint(x...) }
	switch r.Intn(8) {
	case 0:
		list := someList(r, m, now)
		ok := m.load(list)
		return tell(b.Load(list)), tell(ok), tell("Load ", ok)
	case 1:
		clients := []int{mostly(r, r.Intn(8)), mostly(r, r.Intn(8)), r.Intn(8)}[:r.Intn(4)]
		list := m.close(clients)
		return tell(b.Close(clients...)), tell(list), tell("Close ", min(len(list), 2))
	case 2, 3:
		at := mostly(r, now)
		list := m.expire(at)
		return tell(b.Expire(at)), tell(list), tell("Expire ", min(len(list), 2))
	case 4, 5:
		client, at := mostly(r, r.Intn(8)), mostly(r, max(0, now-30+r.Intn(60)))
		e := m.touch(client, at)
		return tell(int(b.Touch(client, at))), tell(int(e)), tell("Touch ", int(e))
	}
	s := someSession(r, now)
	e := m.open(s.Client, s.Span, s.Seen)
	return tell(int(b.Open(s.Client, s.Span, s.Seen))), tell(int(e)), tell("Open ", int(e))
}

// P12.1 to P12.3, P1: calls of all kinds, one after the other, come to what the words tell, and so does the book behind each.
func TestModel(t *testing.T) {
	counts := map[string]int{}
	for seed := range 40 {
		r := rand.New(rand.NewSource(int64(seed)))
		b, m, now := New(), &model{}, 0
		if seed%4 == 3 {
			now = latest - 2000
		}
		for range 600 {
			now += r.Intn(8)
			got, want, what := step(r, b, m, now)
			if got != want {
				t.Errorf("%s: %s, not %s", what, got, want)
			}
			counts[what]++
			holds(t, b, m.all()...)
			if t.Failed() {
				t.Fatalf("seed %d, behind %s", seed, what)
			}
		}
	}
	for _, what := range []string{"Open 0", "Open 101", "Open 120", "Touch 0", "Touch 120", "Expire 0", "Expire 1", "Expire 2", "Close 0", "Close 1", "Close 2", "Load true", "Load false"} {
		if counts[what] < 100 {
			t.Errorf("%s: %d times", what, counts[what])
		}
	}
}

// P2: the same calls on several books come to the same; asking changes nothing.
func TestAlike(t *testing.T) {
	var were []string
	for i := range 3 {
		r := rand.New(rand.NewSource(12))
		b := New()
		var answers []string
		for now := range 500 {
			s := someSession(r, now)
			answers = append(answers, fmt.Sprint(int(b.Open(s.Client, s.Span, s.Seen)), int(b.Touch(r.Intn(8), now)), b.Expire(now), b.Close(r.Intn(40)), b.All()))
			for range i {
				b.All()
				b.Live(s.Client)
				b.Expire(-1)
				b.Close()
				b.Load([]api.Session{s, s})
			}
		}
		if were == nil {
			were = answers
		}
		if !slices.Equal(answers, were) {
			t.Error("not alike")
		}
	}
}
