package apply

import (
	"fmt"
	"testing"

	"stanchion/api"
)

// P13.2, To fire: what is made, set or gone gives events of these kinds, and no others, in this order.
func TestFired(t *testing.T) {
	w := begin(t, 0, 1)
	watched := func() {
		t.Helper()
		for _, p := range []string{"/", "/q", "/q/a"} {
			w.raw(1, bytesOf(t, get(p, true)))
			w.raw(1, bytesOf(t, kids(p, true)))
		}
	}
	gives := func(o api.Op, want ...api.Watch) {
		t.Helper()
		watched()
		if x := w.raw(0, bytesOf(t, o)); x.Code != api.OK || len(x.Events) != 0 {
			t.Error(text(x))
		}
		w.does(1, ping(), told(api.OK, want...))
		w.does(1, ping(), told(api.OK))
	}
	gives(plainNode("/q"), onData(1, "/q"), onKids(1, "/"))
	gives(plainNode("/q/a"), onData(1, "/q/a"), onKids(1, "/q"))
	gives(set("/q/a", "x"), onData(1, "/q/a"))
	gives(set("/q", "x"), onData(1, "/q"))
	gives(set("/", "x"), onData(1, "/"))
	gives(numberedNode("/q/a"), onKids(1, "/q"))
	gives(numberedNode("/q"), onKids(1, "/"))
	gives(drop("/q/a"), onData(1, "/q/a"), onKids(1, "/q"))
	gives(briefNode("/q/a"), onData(1, "/q/a"), onKids(1, "/q"))
	gives(get("/q", false))
	gives(kids("/q", false))
	gives(ping())
	gives(multi())
	gives(shut(), onData(1, "/q/a"), onKids(1, "/q"))
	gives(open(100))
}

// P13.2: what has an error fires nothing.
func TestNotFired(t *testing.T) {
	w := begin(t, 0, 1)
	w.does(0, plainNode("/a"), toldPath("/a", 0))
	w.does(0, plainNode("/a/b"), toldPath("/a/b", 0))
	for _, p := range []string{"/", "/a", "/c"} {
		w.raw(1, bytesOf(t, get(p, true)))
		w.raw(1, bytesOf(t, kids(p, true)))
	}
	for _, o := range []api.Op{plainNode("/a"), plainNode("/c/d"), drop("/a"), drop("/c"), {Kind: api.OpDrop, Path: "/a", Version: 1}, {Kind: api.OpSet, Path: "/a", Version: 1}, set("/c", "x"), {Kind: api.OpSet, Path: "/a", Version: -1, Data: make([]byte, 129)}, multi(plainNode("/c"), drop("/a"))} {
		if x := w.raw(0, bytesOf(t, o)); x.Code == api.OK {
			t.Error(text(o))
		}
		w.raw(0, []byte("junk"))
		w.does(2, o, told(api.ErrSession))
	}
	w.does(1, ping(), told(api.OK))
}

// P13.2: each watch gives one event: of one that is asked for again there is another.
func TestOneEvent(t *testing.T) {
	w := begin(t, 0, 1)
	for range 3 {
		w.does(1, get("/a", true), told(api.ErrNone))
		w.does(1, get("/a", true), told(api.ErrNone))
		w.does(0, plainNode("/a"), toldPath("/a", 0))
		w.does(0, set("/a", "x"), toldPath("/a", 1))
		w.does(0, drop("/a"), told(api.OK))
		w.does(1, ping(), told(api.OK, onData(1, "/a")))
		w.does(1, ping(), told(api.OK))
	}
}

// P13.2: a client is told in the very result of what it changes itself.
func TestOwnEvents(t *testing.T) {
	w := begin(t, 1)
	w.does(1, get("/a", true), told(api.ErrNone))
	w.does(1, kids("/", true), told(api.OK))
	w.does(1, plainNode("/a"), toldPath("/a", 0, onData(1, "/a"), onKids(1, "/")))
	x := api.Result{Leaf: api.Leaf{Path: "/a", Owner: -1, Born: 4}}
	w.does(1, get("/a", true), x)
	w.does(1, drop("/a"), told(api.OK, onData(1, "/a")))
}

// P13.2: of one thing that happens each client is told what it watches.
func TestEventsOfAll(t *testing.T) {
	w := begin(t, 0, 1, 2, 3, 4, 5, 6, 7)
	for client := range 8 {
		w.does(client, get("/a", true), told(api.ErrNone))
		if client%2 == 0 {
			w.does(client, kids("/", true), told(api.OK))
		}
	}
	w.does(3, plainNode("/a"), toldPath("/a", 0, onData(3, "/a")))
	var waiting []api.Watch
	for client := range 8 {
		if client != 3 {
			waiting = append(waiting, onData(client, "/a"))
		}
		if client%2 == 0 {
			waiting = append(waiting, onKids(client, "/"))
		}
	}
	if m := w.s.Image(); text(m.Events) != text(waiting) || len(m.Watches) != 0 {
		t.Errorf("%v, %v", m.Events, m.Watches)
	}
	for client := range 8 {
		want := told(api.OK, onData(client, "/a"))
		if client == 3 {
			want.Events = nil
		}
		if client%2 == 0 {
			want.Events = append(want.Events, onKids(client, "/"))
		}
		w.does(client, ping(), want)
	}
}

// P13.2, step 4: events come with whatever result is next, an error's and one of no operation too, in the order in which they were fired.
func TestEventsNext(t *testing.T) {
	w := begin(t, 0, 1)
	for _, p := range []string{"/a", "/b", "/c"} {
		w.does(0, plainNode(p), toldPath(p, 0))
	}
	for i, o := range []api.Op{ping(), plainNode("/a"), drop("/none"), get("/none", false), kids("x", false), multi(drop("/none")), open(0), open(5), {}} {
		want := []api.Watch{onData(1, "/b"), onData(1, "/c"), onData(1, "/a")}
		for _, p := range []string{"/a", "/b", "/c"} {
			w.raw(1, bytesOf(t, get(p, true)))
		}
		for _, e := range want {
			w.does(0, set(e.Path, "x"), toldPath(e.Path, i+1))
		}
		b, _ := otherOp(o)
		if x := w.raw(1, b); text(x.Events) != text(want) {
			t.Errorf("%s: %s", text(o), text(x))
		}
		w.does(1, ping(), told(api.OK))
	}
}

// P13.2, To end: who closes has no watches and events any more, and none when it opens anew.
func TestClosed(t *testing.T) {
	w := begin(t, 0, 1)
	w.does(1, briefNode("/x"), toldPath("/x", 0))
	for _, p := range []string{"/x", "/a", "/b", "/"} {
		w.raw(1, bytesOf(t, get(p, true)))
		w.raw(1, bytesOf(t, kids(p, true)))
	}
	w.does(0, plainNode("/a"), toldPath("/a", 0))
	if m := w.s.Image(); len(m.Watches) != 6 || len(m.Events) != 2 {
		t.Error(text(m))
	}
	w.does(1, shut(), told(api.OK))
	if m := w.s.Image(); len(m.Watches) != 0 || len(m.Events) != 0 || len(m.Sessions) != 1 || len(m.Leaves) != 2 || len(m.Replies) != 2 {
		t.Error(text(m))
	}
	w.does(0, plainNode("/b"), toldPath("/b", 0))
	w.does(1, open(5), told(api.OK))
	w.does(1, ping(), told(api.OK))
}

// P13.2, To end: a client's nodes are gone, falling, each of which gives its events, to who is left.
func TestEndsInOrder(t *testing.T) {
	w := begin(t, 0, 1, 2)
	w.does(0, plainNode("/a"), toldPath("/a", 0))
	for _, p := range []string{"/a/x", "/b", "/a/y", "/0"} {
		w.does(1, briefNode(p), toldPath(p, 0))
	}
	w.does(2, briefNode("/c"), toldPath("/c", 0))
	for _, p := range []string{"/a/x", "/b", "/a/y", "/0", "/c"} {
		w.raw(0, bytesOf(t, get(p, true)))
	}
	w.raw(0, bytesOf(t, kids("/", true)))
	w.raw(0, bytesOf(t, kids("/a", true)))
	w.does(1, shut(), told(api.OK))
	w.leaves("/a", "/c")
	w.does(0, ping(), told(api.OK, onData(0, "/b"), onKids(0, "/"), onData(0, "/a/y"), onKids(0, "/a"), onData(0, "/a/x"), onData(0, "/0")))
	if m := w.s.Image(); text(m.Watches) != text([]api.Watch{onData(0, "/c")}) {
		t.Error(m.Watches)
	}
}

// P13.2, step 1: sessions end by time, by rising clients, ahead of what is done then.
func TestExpired(t *testing.T) {
	w := begin(t, 5, 3, 0)
	for _, client := range []int{5, 3} {
		p := fmt.Sprintf("/b%d", client)
		w.does(client, briefNode(p), toldPath(p, 0))
	}
	w.time = 50
	w.does(0, get("/b3", true), api.Result{Leaf: api.Leaf{Path: "/b3", Owner: 3, Born: 5}})
	w.does(0, get("/b5", true), api.Result{Leaf: api.Leaf{Path: "/b5", Owner: 5, Born: 4}})
	w.does(0, kids("/", true), toldNames([]string{"/b3", "/b5"}))
	w.does(5, get("/b3", true), api.Result{Leaf: api.Leaf{Path: "/b3", Owner: 3, Born: 5}})
	w.does(3, ping(), told(api.OK))
	w.passes(149)
	if m := w.s.Image(); len(m.Sessions) != 3 {
		t.Error(m.Sessions)
	}
	w.time = 150
	w.does(0, ping(), told(api.ErrSession))
	if m := w.s.Image(); len(m.Sessions) != 0 || len(m.Leaves) != 1 || len(m.Watches) != 0 || len(m.Events) != 0 {
		t.Error(text(m))
	}
}

// P13.2, step 1: who is left is told of those that end, the lesser client's nodes first.
func TestExpiredOrder(t *testing.T) {
	for _, clients := range [][]int{{5, 3}, {3, 5}} {
		w := begin(t, clients...)
		for _, client := range clients {
			for _, p := range []string{"/a", "/b"} {
				p = fmt.Sprint(p, client)
				w.does(client, briefNode(p), toldPath(p, 0))
			}
		}
		w.time = 50
		w.does(4, open(100), told(api.OK))
		for _, p := range []string{"/a3", "/a5", "/b3", "/b5"} {
			w.raw(4, bytesOf(t, get(p, true)))
		}
		w.time = 100
		w.does(4, kids("/", true), toldNames(nil, onData(4, "/b3"), onData(4, "/a3"), onData(4, "/b5"), onData(4, "/a5")))
		w.leaves()
	}
}

// P13.2, step 1: one whose time is over can't put it off by the operation that comes then.
func TestExpiredItself(t *testing.T) {
	w := begin(t, 0)
	w.does(0, briefNode("/a"), toldPath("/a", 0))
	w.does(0, get("/a", true), api.Result{Leaf: api.Leaf{Path: "/a", Owner: 0, Born: 2}})
	w.time = 99
	w.does(0, ping(), told(api.OK))
	w.time = 198
	w.does(0, ping(), told(api.OK))
	w.time = 298
	w.does(0, open(7), told(api.OK))
	w.leaves()
	w.time = 305
	w.does(0, plainNode("/a"), told(api.ErrSession))
}

// P13.2, step 3: watches and events together are no more than eight of a client.
func TestWatchQuota(t *testing.T) {
	for events := range 9 {
		w := begin(t, 0, 1, 2)
		for i := range 8 {
			p := fmt.Sprintf("/n%d", i)
			w.does(1, get(p, true), told(api.ErrNone))
			w.does(2, get(p, true), told(api.ErrNone))
		}
		var want []api.Watch
		for i := range events {
			p := fmt.Sprintf("/n%d", i)
			w.does(0, plainNode(p), toldPath(p, 0))
			want = append(want, onData(1, p))
		}
		// What is there already is no more; the events are told with the error.
		if events < 8 {
			w.does(1, get("/n7", true), told(api.ErrNone, want...))
		} else {
			w.does(1, get("/n7", true), told(api.ErrQuota, want...))
		}
		w.does(2, kids("/", true), told(api.ErrQuota, func() (own []api.Watch) {
			for _, e := range want {
				own = append(own, onData(2, e.Path))
			}
			return own
		}()...))
		for i := range 10 {
			p := fmt.Sprintf("/m%d", i)
			if i < events {
				w.does(1, get(p, true), told(api.ErrNone))
			} else {
				w.does(1, get(p, true), told(api.ErrQuota))
				w.does(1, kids(p, true), told(api.ErrQuota))
				w.does(1, kids(p, false), told(api.ErrNone))
			}
		}
	}
}

// P13.2, step 3: what is wrong with a watch is told ahead of what is wrong with the node; that there are too many, ahead of all.
func TestWatchErrors(t *testing.T) {
	w := begin(t, 0)
	for _, p := range []string{"", "a", "/A", "/a/", "//"} {
		w.does(0, get(p, true), told(api.ErrPath))
		w.does(0, kids(p, true), told(api.ErrPath))
	}
	for i := range 4 {
		w.does(0, get(fmt.Sprintf("/n%d", i), true), told(api.ErrNone))
		w.does(0, kids(fmt.Sprintf("/n%d", i), true), told(api.ErrNone))
	}
	for _, p := range []string{"", "a", "/A", "/a/", "//", "/", "/none"} {
		w.does(0, get(p, true), told(api.ErrQuota))
		w.does(0, kids(p, true), told(api.ErrQuota))
	}
	for i := range 4 {
		w.does(0, get(fmt.Sprintf("/n%d", i), true), told(api.ErrNone))
	}
	if m := w.s.Image(); len(m.Watches) != 8 {
		t.Error(m.Watches)
	}
}

// P13.2, step 3: both kinds of watches on one path are two.
func TestWatchKinds(t *testing.T) {
	w := begin(t, 0)
	w.does(0, get("/", true), api.Result{Leaf: api.Leaf{Path: "/", Owner: -1}})
	w.does(0, kids("/", true), told(api.OK))
	w.does(0, get("/a", true), told(api.ErrNone))
	want := []api.Watch{onData(0, "/"), onKids(0, "/"), onData(0, "/a")}
	if m := w.s.Image(); text(m.Watches) != text(want) {
		t.Error(m.Watches)
	}
}
