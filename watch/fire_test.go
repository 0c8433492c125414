package watch

import (
	"math"
	"strings"
	"testing"

	"stanchion/api"
)

// fires: Fire answers these, and they are gone; those that are left are as they were.
func fires(t *testing.T, x *Table, kind int, paths []string, want ...api.Watch) {
	t.Helper()
	gone := map[api.Watch]bool{}
	for _, w := range want {
		gone[w] = true
	}
	var left []api.Watch
	for _, w := range x.All() {
		if !gone[w] {
			left = append(left, w)
		}
	}
	same(t, "Fire", x.Fire(kind, paths...), want...)
	holds(t, x, left...)
}

// P11.2: Fire takes the watches of a kind on a path; they are gone.
func TestFire(t *testing.T) {
	x := with(t, data(1, "/a"), data(1, "/a"))
	fires(t, x, api.WatchData, []string{"/a"}, data(1, "/a"))
	fires(t, x, api.WatchData, []string{"/a"})
	holds(t, x)

	x = with(t, data(2, "/a"), kids(2, "/a"), data(2, "/b"), data(0, "/a"), kids(0, "/b"), data(7, "/a/b"), data(7, "/"))
	fires(t, x, api.WatchKids, []string{"/a"}, kids(2, "/a"))
	fires(t, x, api.WatchData, []string{"/a"}, data(0, "/a"), data(2, "/a"))
	fires(t, x, api.WatchKids, []string{"/a"})
	holds(t, x, data(7, "/"), data(7, "/a/b"), data(2, "/b"), kids(0, "/b"))
	adds(t, x, api.OK, data(2, "/a"))
	fires(t, x, api.WatchData, []string{"/a"}, data(2, "/a"))
}

// P11.2: paths may be several, in any order, twice, or none.
func TestFirePaths(t *testing.T) {
	whole := []api.Watch{data(5, "/"), data(1, "/a"), data(4, "/a"), kids(0, "/a"), data(0, "/b"), data(3, "/c")}
	x := with(t, whole...)
	fires(t, x, api.WatchData, nil)
	fires(t, x, api.WatchData, []string{})
	fires(t, x, api.WatchData, []string{"/c", "/a", "/", "/x"}, data(5, "/"), data(1, "/a"), data(4, "/a"), data(3, "/c"))
	fires(t, x, api.WatchKids, []string{"/c", "/a", "/a", "/a"}, kids(0, "/a"))
	fires(t, x, api.WatchData, []string{"/b", "/b"}, data(0, "/b"))
	holds(t, x)
	fires(t, x, api.WatchData, []string{"/b", "/"})
}

// P11.2: what is fired comes in the order of watches, whatever order it was added in.
func TestFireOrder(t *testing.T) {
	for _, kind := range []int{api.WatchData, api.WatchKids} {
		x, list := crowd(t)
		var paths []string
		var want []api.Watch
		for _, w := range list {
			paths = append([]string{w.Path}, paths...)
			if w.Kind == kind {
				want = append(want, w)
			}
		}
		fires(t, x, kind, paths, want...)
		if n := len(x.All()); n != 64-len(want) {
			t.Errorf("%d watches", n)
		}
	}
}

// P11.2: a path stands for itself alone: not for one that begins with it, that it begins with, or that is another way of writing it.
func TestFireOtherPaths(t *testing.T) {
	x, _ := crowd(t)
	for _, p := range append([]string{"/c", "/a/b/c", "/a/", "/A", "/a ", "/a\x00", "a", full[:56], full + "/x", wide[:16], "/" + wide}, noPaths...) {
		fires(t, x, api.WatchData, []string{p})
		fires(t, x, api.WatchKids, []string{p, p})
	}
	fires(t, x, api.WatchData, noPaths)
}

// P11.2: no watch has another kind.
func TestFireOtherKinds(t *testing.T) {
	x, list := crowd(t)
	for _, kind := range far {
		if kind != api.WatchData && kind != api.WatchKids {
			fires(t, x, kind, []string{"/", "/a", "/a-", "/a/b", "/b", full, wide})
		}
	}
	holds(t, x, list...)
}

// P1: paths may be many.
func TestFireMany(t *testing.T) {
	paths := strings.Split(strings.Repeat("/a/b/c ", 1<<20), " ")
	x, _ := crowd(t)
	fires(t, x, api.WatchData, append(paths, "/a/b"),
		data(0, "/a/b"), data(1, "/a/b"), data(2, "/a/b"), data(3, "/a/b"), data(4, "/a/b"), data(5, "/a/b"), data(6, "/a/b"), data(7, "/a/b"))
}

// drops: of these clients nothing is left, of the others all.
func drops(t *testing.T, x *Table, clients ...int) {
	t.Helper()
	var left []api.Watch
	for _, w := range x.All() {
		stays := true
		for _, client := range clients {
			stays = stays && w.Client != client
		}
		if stays {
			left = append(left, w)
		}
	}
	x.Drop(clients...)
	holds(t, x, left...)
}

// P11.2: of clients that are dropped no watch is left, of whatever kind and path.
func TestDrop(t *testing.T) {
	x := with(t, data(1, "/a"), kids(1, "/a"), data(2, "/a"), kids(3, "/b"), data(1, "/c"), data(0, "/"))
	drops(t, x)
	drops(t, x, 4, 5)
	holds(t, x, data(0, "/"), data(1, "/a"), data(2, "/a"), kids(1, "/a"), kids(3, "/b"), data(1, "/c"))
	drops(t, x, 1)
	holds(t, x, data(0, "/"), data(2, "/a"), kids(3, "/b"))
	drops(t, x, 3, 1, 3, 0)
	holds(t, x, data(2, "/a"))
	drops(t, x, 2)
	drops(t, x, 2)
	holds(t, x)
}

// P11.2: each client by itself, out of all that there may be, and all of them at once.
func TestDropEach(t *testing.T) {
	for client := range 8 {
		x, _ := crowd(t)
		drops(t, x, client)
		if n := len(x.All()); n != 56 {
			t.Errorf("%d watches", n)
		}
		adds(t, x, api.OK, many(client)...)
	}
	x, _ := crowd(t)
	drops(t, x, 7, 6, 5, 4, 3, 2, 1, 0)
	holds(t, x)
}

// P11.2, P1: what is no client has no watches.
func TestDropOthers(t *testing.T) {
	x, list := crowd(t)
	for _, client := range far {
		if client < 0 || client > 7 {
			drops(t, x, client)
		}
	}
	drops(t, x, math.MinInt, -1, 8, math.MaxInt)
	drops(t, x, make([]int, 0)...)
	holds(t, x, list...)
}
