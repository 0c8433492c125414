package watch

import (
	"testing"

	"stanchion/api"
)

// either: Right answers this, and Add goes by it.
func either(t *testing.T, w api.Watch, right bool) {
	t.Helper()
	if Right(w) != right {
		t.Errorf("Right(%s): %t", listed([]api.Watch{w}), !right)
	}
	for _, x := range []*Table{New(), with(t, data(1, "/other"), kids(0, "/"))} {
		was := len(x.All())
		if right {
			adds(t, x, api.OK, w)
			if got := len(x.All()); got != was+1 {
				t.Errorf("%s: %d watches, not %d", listed([]api.Watch{w}), got, was+1)
			}
		} else {
			adds(t, x, api.ErrPath, w)
		}
	}
}

// When a watch is right, P11.1: its client is from 0 to 7.
func TestRightClient(t *testing.T) {
	for _, n := range far {
		either(t, data(n, "/a"), n >= 0 && n <= 7)
		either(t, kids(n, "/a"), n >= 0 && n <= 7)
		either(t, data(n, "a"), false)
	}
	for n := range 8 {
		either(t, data(n, "/a"), true)
	}
}

// When a watch is right, P11.1: there are two kinds.
func TestRightKind(t *testing.T) {
	for _, n := range far {
		either(t, api.Watch{Client: 2, Kind: n, Path: "/a"}, n == 1 || n == 2)
		either(t, api.Watch{Client: 8, Kind: n, Path: "/a"}, false)
	}
	either(t, api.Watch{}, false)
	either(t, api.Watch{Path: "/"}, false)
}

// When a watch is right, P11.1: its path is one; no node need be there.
func TestRightPath(t *testing.T) {
	for _, p := range noPaths {
		either(t, data(0, p), false)
		either(t, kids(7, p), false)
	}
	for _, p := range []string{"/", "/a", "/-", "/_", "/0", "/a/b", "/a/b/c", wide, full} {
		either(t, data(2, p), true)
		either(t, kids(2, p), true)
	}
}

// P11.1: what is added is there, once.
func TestAdd(t *testing.T) {
	x := New()
	holds(t, x)
	adds(t, x, api.OK, data(1, "/a"))
	holds(t, x, data(1, "/a"))
	adds(t, x, api.OK, data(1, "/a"), data(1, "/a"))
	holds(t, x, data(1, "/a"))
	adds(t, x, api.OK, kids(1, "/a"), data(2, "/a"), data(1, "/b"))
	holds(t, x, data(1, "/a"), data(2, "/a"), kids(1, "/a"), data(1, "/b"))
	adds(t, x, api.OK, kids(1, "/a"), data(2, "/a"), data(1, "/b"), data(1, "/a"))
	holds(t, x, data(1, "/a"), data(2, "/a"), kids(1, "/a"), data(1, "/b"))
}

// P11.1: a client has 8 watches at most; others have theirs.
func TestQuota(t *testing.T) {
	for _, client := range []int{0, 3, 7} {
		x := New()
		for i, w := range many(client) {
			adds(t, x, api.OK, w)
			holds(t, x, many(client)[:i+1]...)
		}
		adds(t, x, api.ErrQuota, data(client, "/"), data(client, "/c"), kids(client, "/a-"), kids(client, full))
		// One that is there already is none more.
		adds(t, x, api.OK, many(client)...)
		holds(t, x, many(client)...)
		// One that isn't right isn't a matter of how many there are.
		adds(t, x, api.ErrPath, data(client, "/c/"), data(-1, "/"), api.Watch{Client: client, Kind: 3, Path: "/a"})
		for other := range 8 {
			if other != client {
				adds(t, x, api.OK, many(other)...)
				adds(t, x, api.ErrQuota, data(other, "/"))
			}
		}
		if n := len(x.All()); n != 64 {
			t.Errorf("%d watches", n)
		}
	}
}

// P11.1: watches that are gone count no more.
func TestQuotaFreed(t *testing.T) {
	x := with(t, many(2)...)
	adds(t, x, api.ErrQuota, data(2, "/c"))
	x.Fire(api.WatchData, "/a")
	adds(t, x, api.OK, data(2, "/c"))
	adds(t, x, api.ErrQuota, data(2, "/a"))
	x.Drop(2)
	adds(t, x, api.OK, many(2)...)
	adds(t, x, api.ErrQuota, data(2, "/c"))
	if !x.Load(many(2)[:7]) {
		t.Error("Load")
	}
	adds(t, x, api.OK, data(2, "/c"))
	adds(t, x, api.ErrQuota, data(2, "/d"))
}
