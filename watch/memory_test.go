package watch

import (
	"slices"
	"testing"
	"unsafe"

	"stanchion/api"
)

// borrowed: a text that stands in the bytes that are answered with it.
func borrowed(s string) (string, []byte) {
	b := []byte(s)
	return unsafe.String(unsafe.SliceData(b), len(b)), b
}

// spoil: all that the list's memory holds is another, spare room too.
func spoil(list []api.Watch) {
	list = list[:cap(list)]
	for i := range list {
		list[i] = data(6, "/spoiled")
	}
}

// P11.3: a list that is loaded is as it was, what stands behind its length too, and isn't kept.
func TestLoadMemory(t *testing.T) {
	for _, wrong := range []bool{false, true} {
		list := []api.Watch{data(1, "/a"), kids(1, "/a"), data(2, "/b"), data(3, "/c"), {Client: 9, Path: "behind"}, {Kind: 9, Path: "the length"}}
		if wrong {
			list[3].Path = "/a"
		}
		was := slices.Clone(list)
		x := with(t, data(4, "/old"))
		want := x.All()
		if x.Load(list[:4]) == wrong {
			t.Fatal("Load")
		}
		if !slices.Equal(list, was) {
			t.Error(listed(list))
		}
		if !wrong {
			want = slices.Clone(list[:4])
		}
		spoil(list)
		holds(t, x, want...)
		adds(t, x, api.OK, data(5, "/a/0"))
		x.Drop(5)
		holds(t, x, want...)
		for _, w := range list {
			if w.Path != "/spoiled" {
				t.Error(listed(list))
			}
		}
	}
}

// P11.3: paths and clients are as they were, what stands behind their length too.
func TestListsMemory(t *testing.T) {
	x, _ := crowd(t)
	paths := []string{"/b", "/a", "x", "", "/a", "/c", "behind", "the length"}
	clients := []int{7, 2, -1, 2, 0, 99, 98}
	wasPaths, wasClients := slices.Clone(paths), slices.Clone(clients)
	x.Fire(api.WatchData, paths[:6]...)
	x.Fire(api.WatchKids, paths[:6]...)
	x.Fire(9, paths[:6]...)
	x.Drop(clients[:5]...)
	if !slices.Equal(paths, wasPaths) || !slices.Equal(clients, wasClients) {
		t.Errorf("%q, %d", paths, clients)
	}
	was := x.All()
	for i := range paths {
		paths[i] = "/a/b"
	}
	for i := range clients {
		clients[i] = 3
	}
	holds(t, x, was...)
}

// P11.3, rule 5: texts too aren't kept, and no answer stands in the memory of one that was handed in.
func TestTextsMemory(t *testing.T) {
	var all [][]byte
	of := func(s string) string {
		text, b := borrowed(s)
		all = append(all, b)
		return text
	}
	x, y := New(), New()
	x.Add(data(1, of("/a")))
	x.Add(data(2, of("/a")))
	x.Add(data(2, of("/a")))
	x.Add(data(2, of("/b")))
	x.Add(kids(2, of("/c")))
	fired := x.Fire(api.WatchData, of("/a"), of("/b"))
	y.Load([]api.Watch{data(1, of("/")), data(1, of("/l"))})
	for _, b := range all {
		for i := range b {
			b[i] ^= 0x55
		}
	}
	same(t, "Fire", fired, data(1, "/a"), data(2, "/a"), data(2, "/b"))
	holds(t, x, kids(2, "/c"))
	holds(t, y, data(1, "/"), data(1, "/l"))
}

// P11.3: no text is answered twice in one memory.
func TestTextsApart(t *testing.T) {
	x, _ := crowd(t)
	seen := map[*byte]string{}
	apart := func(call string, list []api.Watch) {
		for _, w := range list {
			at := unsafe.StringData(w.Path)
			if other, there := seen[at]; there {
				t.Errorf("%s: %q stands where %s has its answer", call, w.Path, other)
			}
			seen[at] = call
		}
	}
	apart("All", x.All())
	apart("All again", x.All())
	y := New()
	y.Load(x.All())
	apart("All of another", y.All())
	apart("Fire", x.Fire(api.WatchData, "/a", "/b", "/a/b"))
	apart("Fire again", x.Fire(api.WatchKids, "/a", "/b", "/"))
	apart("Fire of another", y.Fire(api.WatchKids, "/a", "/b", "/"))
	apart("All that is left", x.All())
}

// P11.3: what is answered is new memory: neither the table nor another answer hangs on it, and it hangs on nothing that comes.
func TestAnswersMemory(t *testing.T) {
	x, whole := crowd(t)
	all, otherAll := x.All(), x.All()
	_ = append(all, data(6, "/more"))
	spoil(all)
	holds(t, x, whole...)
	fired, left := x.Fire(api.WatchData, "/a", "/b"), x.All()
	firedWas := slices.Clone(fired)
	if len(fired) != 8 {
		t.Fatalf("%d fired", len(fired))
	}
	adds(t, x, api.OK, data(1, "/a"), data(2, "/b"), data(3, "/0"))
	x.Drop(1, 2, 3)
	x.Fire(api.WatchKids, "/", "/a")
	adds(t, x, api.OK, many(1)...)
	same(t, "Fire", fired, firedWas...)
	was := x.All()
	_ = append(fired, data(6, "/more"))
	spoil(fired)
	holds(t, x, was...)
	same(t, "All", otherAll, whole...)
	if n := len(left); n != 56 {
		t.Errorf("%d left", n)
	}
}

// Rule 5: nothing stands in an answer's spare room.
func TestSpareRoom(t *testing.T) {
	for n := range 9 {
		x := with(t, many(1)[:n]...)
		adds(t, x, api.OK, many(2)[n/2:]...)
		lists := [][]api.Watch{x.All(), x.Fire(api.WatchData, "/a", "/a/b", full), x.All(), x.Fire(api.WatchKids, "/a", "/"), x.All()}
		x.Drop(1)
		for i, list := range append(lists, x.All()) {
			for _, w := range list[len(list):cap(list)] {
				if w != (api.Watch{}) {
					t.Errorf("list %d of %d watches: spare room %s", i, n, listed([]api.Watch{w}))
				}
			}
		}
	}
}

// Rule 8: two tables have nothing in common, though one is loaded of the other.
func TestTablesApart(t *testing.T) {
	x, whole := crowd(t)
	y := New()
	if !y.Load(x.All()) {
		t.Fatal("Load")
	}
	x.Fire(api.WatchData, "/a")
	x.Drop(2, 3)
	adds(t, x, api.OK, data(2, "/x"))
	holds(t, y, whole...)
	holds(t, New())
}

// Rule 1: nil lists and empty ones are the same.
func TestNilIsEmpty(t *testing.T) {
	for _, list := range [][]api.Watch{nil, {}} {
		x := with(t, many(1)...)
		if !x.Load(list) {
			t.Error("Load")
		}
		holds(t, x)
	}
	x := with(t, many(1)...)
	if len(x.Fire(api.WatchData, nil...)) != 0 || len(x.Fire(api.WatchData, []string{}...)) != 0 || len(x.Fire(api.WatchData)) != 0 {
		t.Error("Fire")
	}
	x.Drop(nil...)
	x.Drop([]int{}...)
	x.Drop()
	holds(t, x, many(1)...)
	// An empty text is one path, which no watch has.
	fires(t, x, api.WatchData, []string{""})
}
