package watch

import (
	"slices"
	"testing"

	"stanchion/api"
)

// tables: some, and what they hold.
func tables(t *testing.T) []*Table {
	t.Helper()
	x, _ := crowd(t)
	return []*Table{New(), with(t, data(1, "/old"), kids(2, "/older")), x}
}

// takes: a table has these watches alone, whatever it had.
func takes(t *testing.T, list ...api.Watch) {
	t.Helper()
	for _, x := range tables(t) {
		if !x.Load(list) {
			t.Errorf("not loaded: %s", listed(list))
			continue
		}
		holds(t, x, list...)
		again := New()
		if !again.Load(x.All()) {
			t.Errorf("not loaded again: %s", listed(x.All()))
		}
		holds(t, again, list...)
	}
}

// refuses: a table has what it had.
func refuses(t *testing.T, list ...api.Watch) {
	t.Helper()
	for _, x := range tables(t) {
		was := x.All()
		if x.Load(list) {
			t.Errorf("loaded: %s", listed(list))
		}
		holds(t, x, was...)
	}
}

// The order of watches, P11.2: by paths' bytes, then kinds, then clients, whatever order they were added in.
func TestOrder(t *testing.T) {
	order := []api.Watch{
		data(0, "/"), data(7, "/"), kids(0, "/"), kids(7, "/"),
		data(6, "/-"), data(6, "/0"), data(6, "/_"),
		kids(0, "/a"), kids(1, "/a"), data(5, "/a-"), kids(4, "/a-"), data(5, "/a/b"), data(5, "/a0"), data(5, "/a_"), data(5, "/aa"),
		data(3, "/b"), data(4, "/b"), kids(2, "/b"), data(0, "/b/a"), data(0, "/ba"),
		data(0, wide[:16]), data(0, wide),
	}
	for _, turn := range []int{1, 3, 5, 7, 9, 13, 21} {
		x := New()
		for i := range order {
			adds(t, x, api.OK, order[i*turn%len(order)])
		}
		holds(t, x, order...)
	}
	back := New()
	for _, w := range slices.Backward(order) {
		adds(t, back, api.OK, w)
	}
	holds(t, back, order...)
	takes(t, order...)
}

// P11.2: lists that are such as All answers.
func TestLoad(t *testing.T) {
	takes(t)
	takes(t, data(1, "/a"))
	takes(t, kids(0, "/"))
	takes(t, data(1, "/a"), kids(1, "/a"))
	takes(t, data(1, "/a"), data(2, "/a"))
	takes(t, data(1, "/a"), data(1, "/b"))
	takes(t, data(7, "/"), kids(6, "/"), data(5, full), data(4, wide))
	takes(t, many(3)...)
	_, list := crowd(t)
	takes(t, list...)
}

// P11.2: each is greater than the one ahead, by the first of path, kind and client that isn't the same.
func TestLoadOrder(t *testing.T) {
	order := []api.Watch{data(0, "/"), data(1, "/"), kids(0, "/"), kids(7, "/"), data(0, "/a"), kids(0, "/a"), data(0, "/a-"), data(0, "/a/b"), data(5, "/aa"), data(1, "/b")}
	for i, w := range order {
		refuses(t, w, w)
		for j, v := range order {
			if i < j {
				takes(t, w, v)
				refuses(t, v, w)
				refuses(t, data(2, "/"), v, w)
				refuses(t, v, w, data(2, wide))
				refuses(t, w, v, v)
				refuses(t, w, w, v)
			}
		}
	}
	takes(t, order[:7]...)
	refuses(t, order[0], order[2], order[1])
	refuses(t, order[1], order[0], order[2])
	_, list := crowd(t)
	for i := range len(list) - 1 {
		list[i], list[i+1] = list[i+1], list[i]
		refuses(t, list...)
		list[i], list[i+1] = list[i+1], list[i]
	}
}

// P11.2: each is right, wherever it stands.
func TestLoadRight(t *testing.T) {
	for _, n := range far {
		if n < 0 || n > 7 {
			refuses(t, data(n, "/a"))
			refuses(t, data(n, "/a"), data(1, "/b"))
			refuses(t, data(1, "/"), data(n, "/a"))
			refuses(t, data(1, "/"), data(n, "/a"), data(1, "/b"))
		}
		if n < 1 || n > 2 {
			w := api.Watch{Client: 1, Kind: n, Path: "/a"}
			refuses(t, w)
			refuses(t, w, data(1, "/b"))
			refuses(t, data(1, "/"), w)
			refuses(t, data(1, "/"), w, data(1, "/b"))
		}
	}
	for _, p := range noPaths {
		refuses(t, data(1, p))
		refuses(t, data(1, p), data(1, wide))
		refuses(t, data(1, "/"), data(1, p))
		refuses(t, data(1, "/"), kids(1, p), kids(1, wide))
	}
	refuses(t, api.Watch{})
}

// P11.2: of each client there are 8 at most.
func TestLoadQuota(t *testing.T) {
	_, list := crowd(t)
	for client := range 8 {
		takes(t, many(client)...)
		refuses(t, append([]api.Watch{data(client, "/")}, many(client)...)...)
		refuses(t, append(many(client), kids(client, wide))...)
		refuses(t, append(slices.Clone(list), kids(client, wide))...)
		refuses(t, slices.Insert(many(client), 4, kids(client, "/a-"))...)
	}
	// Nobody else's are counted among a client's.
	takes(t, append([]api.Watch{data(0, "/")}, many(1)...)...)
}

// P11.2, P1: lists may be long.
func TestLoadMany(t *testing.T) {
	list := make([]api.Watch, 1<<20)
	refuses(t, list...)
	for i := range list {
		list[i] = data(i%8, "/a")
	}
	refuses(t, list...)
}

// P11.2: what is loaded is fired, dropped and added to as what was added.
func TestLoaded(t *testing.T) {
	x := with(t, data(0, "/old"))
	if !x.Load([]api.Watch{data(1, "/a"), data(2, "/a"), kids(1, "/a"), data(0, "/b")}) {
		t.Fatal("Load")
	}
	fires(t, x, api.WatchData, []string{"/old"})
	fires(t, x, api.WatchData, []string{"/a"}, data(1, "/a"), data(2, "/a"))
	adds(t, x, api.OK, kids(0, "/a"), kids(1, "/a"))
	drops(t, x, 1)
	holds(t, x, kids(0, "/a"), data(0, "/b"))
}
