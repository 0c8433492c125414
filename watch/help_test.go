package watch

import (
	"fmt"
	"math"
	"strings"
	"testing"

	"stanchion/api"
)

// noPaths are all but paths.
var noPaths = []string{
	"", "a", "a/b", "//", "/a/", "//a", "/a//b", "/A", "/a b", "/.", "/..", "/a\n", "/\x00", "\x00", "/a\xff", "/é", " /a", "/a ",
	"/" + strings.Repeat("n", 17), full + "x", full + "/x", strings.Repeat("/a", 33), "/" + strings.Repeat("n", 1<<20), strings.Repeat("/", 1<<20),
}

var (
	full = strings.Repeat("/abcdefg", 8) // a path of 64 bytes
	wide = "/" + strings.Repeat("n", 16) // a path with a part of 16 bytes
)

// far: numbers at both ends, and such as come to others in fewer bits.
var far = []int{math.MinInt, math.MinInt + 1, -1 << 40, -1 << 32, -256, -8, -2, -1, 0, 1, 2, 3, 6, 7, 8, 9, 255, 256, 257, 258, 1 << 31, 1 << 32, 1<<32 + 1, 1<<32 + 2, api.MaxWide, api.MaxNum, math.MaxInt - 1, math.MaxInt}

// data: a client's watch on a node.
func data(client int, p string) api.Watch {
	return api.Watch{Client: client, Kind: api.WatchData, Path: p}
}

// kids: a client's watch on a node's children.
func kids(client int, p string) api.Watch {
	return api.Watch{Client: client, Kind: api.WatchKids, Path: p}
}

// listed: watches in words.
func listed(list []api.Watch) string {
	var s []string
	for _, w := range list {
		s = append(s, fmt.Sprintf("%d %d %.80q", w.Client, w.Kind, w.Path))
	}
	return strings.Join(s, "; ")
}

// same: is the list this one, but for how its memory stands?
func same(t *testing.T, call string, got []api.Watch, want ...api.Watch) {
	t.Helper()
	if listed(got) != listed(want) {
		t.Errorf("%s:\n\t%s\nnot\n\t%s", call, listed(got), listed(want))
	}
}

// holds: has the table these watches, and no others?
func holds(t *testing.T, x *Table, want ...api.Watch) {
	t.Helper()
	same(t, "All", x.All(), want...)
}

// adds: Add answers this of each; if it is an error, nothing has changed.
func adds(t *testing.T, x *Table, want api.Errno, list ...api.Watch) {
	t.Helper()
	for _, w := range list {
		was := x.All()
		if e := x.Add(w); e != want {
			t.Errorf("Add(%s): %d, not %d", listed([]api.Watch{w}), e, want)
		}
		if want != api.OK {
			holds(t, x, was...)
		}
	}
}

// with: a table of these watches, added in their order.
func with(t *testing.T, list ...api.Watch) *Table {
	t.Helper()
	x := New()
	adds(t, x, api.OK, list...)
	return x
}

// many: as many watches of a client as it may have, in their order.
func many(client int) []api.Watch {
	return []api.Watch{
		kids(client, "/"), data(client, "/a"), kids(client, "/a"), data(client, "/a-"),
		data(client, "/a/b"), data(client, full), kids(client, "/b"), data(client, wide),
	}
}

// crowd: a table of as many watches as there may be, and its watches in their order.
func crowd(t *testing.T) (*Table, []api.Watch) {
	t.Helper()
	x := New()
	var list []api.Watch
	for client := range 8 {
		adds(t, x, api.OK, many(client)...)
	}
	for i := range 8 {
		for client := range 8 {
			list = append(list, many(client)[i])
		}
	}
	return x, list
}
