package apply

import (
	"fmt"
	"math"
	"slices"
	"testing"

	"stanchion/api"
)

// busy: a space that has some of all.
func busy(t *testing.T) *Space {
	t.Helper()
	w := begin(t, 4, 1, 2)
	w.does(1, plainNode("/q"), toldPath("/q", 0))
	w.does(4, briefNode("/q/b"), toldPath("/q/b", 0))
	for _, client := range []int{4, 2, 1} {
		w.raw(client, bytesOf(t, get("/q", true)))
		w.raw(client, bytesOf(t, kids("/q", true)))
		w.raw(client, bytesOf(t, kids("/", true)))
	}
	w.time = 40
	w.does(1, set("/q", "data"), toldPath("/q", 1, onData(1, "/q")))
	w.does(1, numberedNode("/q/t-"), toldPath("/q/t-00000", 0, onKids(1, "/q")))
	w.does(7, ping(), told(api.ErrSession))
	return w.s
}

// whole: an image of all kinds of things, many at their edges.
func whole() api.Image {
	return api.Image{
		Time: latest, Count: latest,
		Leaves:   []api.Leaf{{Path: "/", Owner: -1, Next: 3, Data: []byte("root")}, {Path: "/a", Owner: 9, Version: 5}, {Path: "/b", Owner: -1, Born: 7}, {Path: "/b/c", Owner: 0, Data: make([]byte, 128)}},
		Watches:  []api.Watch{onData(0, "/"), onData(7, "/"), onKids(3, "/"), onKids(7, "/b")},
		Sessions: []api.Session{{Client: 0, Span: 1, Seen: latest}, {Client: 3, Span: 1_000_000}},
		Events:   []api.Watch{onKids(0, "/"), onData(0, "/x"), onData(0, "/x"), onData(3, "/b"), onKids(6, "/"), onData(6, "/")},
		Replies:  []api.Reply{{Client: 0, Stamp: 1}, {Client: 2, Stamp: latest, Data: []byte("any")}, {Client: 7, Stamp: 3, Data: make([]byte, 300)}},
	}
}

// empty: the image of an empty space.
func empty() api.Image { return api.Image{Leaves: []api.Leaf{{Path: "/", Owner: -1}}} }

// loads: a space is that image, whatever it was.
func loads(t *testing.T, m api.Image) {
	t.Helper()
	for _, s := range []*Space{New(), busy(t)} {
		if !s.Load(m) {
			t.Errorf("not loaded: %s", short(text(m)))
			continue
		}
		is(t, s, m)
		again := New()
		if !again.Load(s.Image()) {
			t.Errorf("not loaded again: %s", short(text(m)))
		}
		is(t, again, m)
	}
}

// refuses: a space is as it was.
func refuses(t *testing.T, m api.Image) {
	t.Helper()
	for _, s := range []*Space{New(), busy(t)} {
		was := s.Image()
		if s.Load(m) {
			t.Errorf("loaded: %s", short(text(m)))
		}
		is(t, s, was)
	}
}

// P13.3: at first all is empty, and 0.
func TestNew(t *testing.T) {
	is(t, New(), empty())
	loads(t, empty())
}

// P13.3: all that a space is.
func TestImage(t *testing.T) {
	s := busy(t)
	m := s.Image()
	var replies []api.Reply
	for _, x := range []struct {
		client, stamp int
		x             api.Result
	}{
		{1, 7, toldPath("/q/t-00000", 0, onKids(1, "/q"))}, {2, 4, toldNames([]string{"/q"})}, {4, 5, toldNames([]string{"/q"})}, {7, 1, told(api.ErrSession)},
	} {
		x.x.Count = map[int]int{1: 16, 2: 11, 4: 8, 7: 17}[x.client]
		b, _ := otherResult(x.x)
		replies = append(replies, api.Reply{Client: x.client, Stamp: x.stamp, Data: b})
	}
	is(t, s, api.Image{
		Time: 40, Count: 17,
		Leaves:   []api.Leaf{{Path: "/", Owner: -1}, {Path: "/q", Data: []byte("data"), Version: 1, Owner: -1, Next: 1, Born: 4}, {Path: "/q/b", Owner: 4, Born: 5}, {Path: "/q/t-00000", Owner: -1, Born: 16}},
		Watches:  []api.Watch{onKids(1, "/"), onKids(2, "/"), onKids(4, "/")},
		Sessions: []api.Session{{Client: 1, Span: 100, Seen: 40}, {Client: 2, Span: 100}, {Client: 4, Span: 100}},
		Events:   []api.Watch{onData(2, "/q"), onKids(2, "/q"), onData(4, "/q"), onKids(4, "/q")},
		Replies:  replies,
	})
	loads(t, m)
}

// P13.3: what can be an image.
func TestLoad(t *testing.T) {
	loads(t, whole())
	for _, change := range []func(*api.Image){
		func(m *api.Image) { m.Watches = nil },
		func(m *api.Image) { m.Sessions = nil },
		func(m *api.Image) { m.Events = nil },
		func(m *api.Image) { m.Replies = nil },
		func(m *api.Image) { m.Leaves = m.Leaves[:1] },
		func(m *api.Image) { m.Time, m.Count = 0, 0 },
	} {
		m := whole()
		change(&m)
		loads(t, m)
	}
}

// P13.3: the time and the count are from 0 to 2^40 - 1.
func TestLoadNumbers(t *testing.T) {
	for _, n := range far {
		check := loads
		if n < 0 || n > latest {
			check = refuses
		}
		m := whole()
		m.Time = n
		check(t, m)
		m = empty()
		m.Count = n
		check(t, m)
	}
}

// P13.3: nodes, watches and sessions are such as their layers take.
func TestLoadBelow(t *testing.T) {
	for i, change := range []func(*api.Image){
		func(m *api.Image) { m.Leaves = nil },
		func(m *api.Image) { m.Leaves = m.Leaves[1:] },
		func(m *api.Image) { m.Leaves[1], m.Leaves[2] = m.Leaves[2], m.Leaves[1] },
		func(m *api.Image) { m.Leaves[2].Owner = 1 },
		func(m *api.Image) { m.Leaves[3].Data = make([]byte, 129) },
		func(m *api.Image) { m.Leaves[3].Version = -1 },
		func(m *api.Image) { m.Watches[0], m.Watches[1] = m.Watches[1], m.Watches[0] },
		func(m *api.Image) { m.Watches[0] = m.Watches[1] },
		func(m *api.Image) { m.Watches[3].Client = 8 },
		func(m *api.Image) { m.Watches[3].Path = "b" },
		func(m *api.Image) { m.Watches[3].Kind = 3 },
		func(m *api.Image) { m.Sessions[1].Client = 0 },
		func(m *api.Image) { m.Sessions[1].Span = 0 },
		func(m *api.Image) { m.Sessions[0].Seen = latest + 1 },
	} {
		m := whole()
		if change(&m); text(m) == text(whole()) {
			t.Errorf("change %d is none", i)
		}
		refuses(t, m)
	}
}

// P13.3: events are right watches.
func TestLoadEventsRight(t *testing.T) {
	for i := range whole().Events {
		for _, w := range []api.Watch{{}, onData(-1, "/"), onData(8, "/"), onData(math.MinInt, "/"), onData(0, ""), onData(0, "a"), onData(0, "/A"), {Client: 0, Kind: 0, Path: "/"}, {Client: 0, Kind: 3, Path: "/"}} {
			m := whole()
			if w.Client == 0 {
				w.Client = m.Events[i].Client
			}
			m.Events[i] = w
			refuses(t, m)
			m.Events = []api.Watch{w}
			refuses(t, m)
		}
	}
}

// P13.3: events come by rising clients, each client's in any order, the same perhaps again.
func TestLoadEventsOrder(t *testing.T) {
	for _, first := range whole().Events {
		for _, second := range whole().Events {
			m := whole()
			m.Events = []api.Watch{first, second}
			if first.Client <= second.Client {
				loads(t, m)
			} else {
				refuses(t, m)
			}
		}
	}
	m := whole()
	m.Events = append(m.Events, onData(3, "/"))
	refuses(t, m)
}

// P13.3: of each client there are no more than eight watches and events together.
func TestLoadEventsCount(t *testing.T) {
	for watches := range 10 {
		for events := range 10 {
			m := empty()
			for i := range watches {
				m.Watches = append(m.Watches, onData(5, fmt.Sprintf("/n%d", i)), onKids(6, fmt.Sprintf("/n%d", i)))
			}
			m.Watches = m.Watches[:min(len(m.Watches), 16)]
			for client := range 7 {
				if client == 5 {
					m.Events = append(m.Events, slices.Repeat([]api.Watch{onKids(client, "/x")}, events)...)
				} else if client < 5 {
					m.Events = append(m.Events, slices.Repeat([]api.Watch{onKids(client, "/x")}, 8)...)
				}
			}
			if min(watches, 8)+events <= 8 {
				loads(t, m)
			} else {
				refuses(t, m)
			}
		}
	}
	m := empty()
	for i := range 9 {
		m.Watches = append(m.Watches, onData(5, fmt.Sprintf("/n%d", i)))
	}
	refuses(t, m)
	m = empty()
	m.Events = slices.Repeat([]api.Watch{onKids(5, "/x")}, 1<<20)
	refuses(t, m)
}

// P13.3: replies' clients rise, each from 0 to 7.
func TestLoadReplyClients(t *testing.T) {
	for _, n := range far {
		m := empty()
		m.Replies = []api.Reply{{Client: n, Stamp: 1}}
		if n >= 0 && n <= 7 {
			loads(t, m)
		} else {
			refuses(t, m)
		}
		m = whole()
		m.Replies[1].Client = n
		if n > 0 && n < 7 {
			loads(t, m)
		} else {
			refuses(t, m)
		}
	}
	m := empty()
	for client := range 8 {
		m.Replies = append(m.Replies, api.Reply{Client: client, Stamp: 9 - client})
	}
	loads(t, m)
	m.Replies = append(m.Replies, api.Reply{Client: 8, Stamp: 1})
	refuses(t, m)
	m.Replies = make([]api.Reply, 1<<20)
	refuses(t, m)
}

// P13.3: replies' stamps are from 1 to 2^40 - 1.
func TestLoadReplyStamps(t *testing.T) {
	for _, n := range far {
		for i := range 3 {
			m := whole()
			m.Replies[i].Stamp = n
			if n >= 1 && n <= latest {
				loads(t, m)
			} else {
				refuses(t, m)
			}
		}
	}
}

// P13.3: replies' data are any bytes, at most 65,536.
func TestLoadReplyData(t *testing.T) {
	for _, n := range []int{0, 1, 1024, 1025, 65535, 65536, 65537, 1 << 20} {
		for i := range 3 {
			m := whole()
			m.Replies[i].Data = make([]byte, n)
			if n <= 65536 {
				loads(t, m)
			} else {
				refuses(t, m)
			}
		}
	}
}

// P13.2, P13.3: a space that is loaded goes on as it would have.
func TestLoadGoesOn(t *testing.T) {
	w := &world{t: t, s: New(), stamps: [8]int{2, 0, 3}, count: 9}
	m := whole()
	m.Time, m.Count, m.Replies, m.Sessions = 9, 9, []api.Reply{{Client: 0, Stamp: 2, Data: []byte("last")}, {Client: 2, Stamp: 3, Data: []byte("other")}}, []api.Session{{Client: 0, Span: 4, Seen: 8}, {Client: 3, Span: 5, Seen: 1}}
	if !w.s.Load(m) {
		t.Fatal("Load")
	}
	for _, r := range m.Replies {
		if b, now := w.s.Do(api.Entry{Client: r.Client, Stamp: r.Stamp, Time: 3}, nil); string(b) != string(r.Data) || now {
			t.Errorf("%q, %t", b, now)
		}
	}
	if got := w.s.Image(); got.Time != 9 || len(got.Sessions) != 1 {
		t.Error(text(got))
	}
	w.does(0, set("/", "x"), toldPath("/", 1, onKids(0, "/"), onData(0, "/x"), onData(0, "/x"), onData(0, "/")))
	w.does(0, numberedNode("/n-"), toldPath("/n-00003", 0))
	w.does(0, get("/n-00003", false), api.Result{Leaf: api.Leaf{Path: "/n-00003", Owner: -1, Born: 11}})
	w.time = 13
	w.does(2, open(1), told(api.OK))
	w.leaves("/a", "/b", "/n-00003")
}

// P13.2, step 4: who has no session isn't told of events, and they don't wait any more.
func TestEventsWithoutSession(t *testing.T) {
	w := &world{t: t, s: New()}
	m := empty()
	m.Events = []api.Watch{onData(1, "/a"), onData(2, "/a"), onKids(3, "/b"), onData(3, "/a")}
	m.Watches = []api.Watch{onData(1, "/w"), onData(4, "/w")}
	if !w.s.Load(m) {
		t.Fatal("Load")
	}
	w.does(1, ping(), told(api.ErrSession))
	if x := w.raw(2, nil); x.Code != api.ErrOp || len(x.Events) != 0 {
		t.Error(text(x))
	}
	w.does(3, open(5), told(api.OK, onKids(3, "/b"), onData(3, "/a")))
	if got := w.s.Image(); len(got.Events) != 0 || len(got.Watches) != 2 {
		t.Error(text(got))
	}
	w.does(1, open(5), told(api.OK))
	w.does(2, open(5), told(api.OK))
	// A watch of who has no session waits as others do, and so does its event.
	w.does(1, plainNode("/w"), toldPath("/w", 0, onData(1, "/w")))
	if got := w.s.Image(); text(got.Events) != text([]api.Watch{onData(4, "/w")}) || len(got.Watches) != 0 {
		t.Error(text(got))
	}
	w.does(4, open(5), told(api.OK, onData(4, "/w")))
}

// P13.2: the count goes on beyond what can be loaded.
func TestCountGoesOn(t *testing.T) {
	s := New()
	m := empty()
	m.Count = latest
	if !s.Load(m) {
		t.Fatal("Load")
	}
	b, now := s.Do(api.Entry{Client: 0, Stamp: 1}, bytesOf(t, open(1)))
	x, e := ReadResult(b)
	if !now || e != api.OK || x.Count != latest+1 || s.Image().Count != latest+1 {
		t.Error(text(x), now, e)
	}
}
