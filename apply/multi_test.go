package apply

import (
	"fmt"
	"math"
	"slices"
	"testing"

	"stanchion/api"
)

// failed: a result of several operations of which one has an error.
func failed(code api.Errno, at int) api.Result {
	x := told(code)
	x.At = at
	return x
}

// P13.2: several are done one after the other; each that makes a node names it.
func TestMulti(t *testing.T) {
	w := begin(t, 0)
	w.does(0, multi(), told(api.OK))
	w.does(0, multi(plainNode("/a"), plainNode("/a/b"), set("/a", "x"), drop("/a/b")), toldNames([]string{"/a", "/a/b", "", ""}))
	w.does(0, multi(set("/a", "y"), numberedNode("/a/t-"), numberedNode("/a/t-"), briefNode("/a/z")), toldNames([]string{"", "/a/t-00000", "/a/t-00001", "/a/z"}))
	w.does(0, multi(drop("/a/t-00000")), toldNames([]string{""}))
	w.does(0, multi(api.Op{Kind: api.OpSet, Path: "/a", Version: 2}, api.Op{Kind: api.OpSet, Path: "/a", Data: []byte("z"), Version: 3}), toldNames([]string{"", ""}))
	m := w.s.Image()
	if want := []api.Leaf{{Path: "/", Owner: -1}, {Path: "/a", Data: []byte("z"), Version: 4, Owner: -1, Next: 2, Born: 3}, {Path: "/a/t-00001", Owner: -1, Born: 4}, {Path: "/a/z", Born: 4}}; text(m.Leaves) != text(want) {
		t.Errorf("%+v", m.Leaves)
	}
}

// P13.2: if one has an error, this and its place are told, and nothing has changed.
func TestMultiFails(t *testing.T) {
	bad := []struct {
		o    api.Op
		want api.Errno
	}{
		{plainNode("/a"), api.ErrThere}, {plainNode("a"), api.ErrPath}, {plainNode("/none/a"), api.ErrNone}, {plainNode("/b/c"), api.ErrBrief}, {drop("/a"), api.ErrKids}, {drop("/none"), api.ErrNone},
		{set("/none", ""), api.ErrNone}, {api.Op{Kind: api.OpSet, Path: "/a/k", Version: 7}, api.ErrVersion}, {api.Op{Kind: api.OpDrop, Path: "/a/k", Version: 7}, api.ErrVersion}, {api.Op{Kind: api.OpSet, Path: "/", Version: -1, Data: make([]byte, 129)}, api.ErrQuota},
	}
	good := []api.Op{numberedNode("/a/t-"), set("/a", "changed"), drop("/a/k")}
	w := begin(t, 0, 1)
	w.does(0, multi(plainNode("/a"), plainNode("/a/j"), plainNode("/a/k"), briefNode("/b")), toldNames([]string{"/a", "/a/j", "/a/k", "/b"}))
	for _, p := range []string{"/a", "/a/k", "/a/t-00000"} {
		w.raw(1, bytesOf(t, get(p, true)))
		w.raw(1, bytesOf(t, kids(p, true)))
	}
	want := w.s.Image()
	for _, x := range bad {
		for at := range 4 {
			list := slices.Insert(slices.Clone(good), at, x.o)
			if x.o.Path == "/a/k" && at == 3 {
				x.want = api.ErrNone
			}
			w.does(0, multi(list...), failed(x.want, at))
			// What comes behind the first error isn't looked at.
			w.does(0, multi(append(slices.Clone(list[:at+1]), bad[0].o)[:min(at+2, 4)]...), failed(x.want, at))
			got := w.s.Image()
			want.Count, want.Replies = got.Count, got.Replies
			is(t, w.s, want)
		}
	}
	w.does(1, ping(), told(api.OK))
}

// P13.2: each comes upon what those ahead of it have done.
func TestMultiSees(t *testing.T) {
	w := begin(t, 0)
	w.does(0, multi(plainNode("/a"), plainNode("/a")), failed(api.ErrThere, 1))
	w.does(0, multi(plainNode("/a"), drop("/a"), drop("/a")), failed(api.ErrNone, 2))
	w.does(0, multi(briefNode("/a"), plainNode("/a/b")), failed(api.ErrBrief, 1))
	w.does(0, multi(plainNode("/a"), plainNode("/a/b"), drop("/a")), failed(api.ErrKids, 2))
	w.does(0, multi(plainNode("/a"), drop("/a"), briefNode("/a"), set("/a", "")), toldNames([]string{"/a", "", "/a", ""}))
	w.does(0, get("/a", false), api.Result{Leaf: api.Leaf{Path: "/a", Version: 1, Born: 6}})
}

// P13.2: the tree has room for so many nodes, those ahead of an error among them; a failure leaves the room that there was.
func TestMultiQuota(t *testing.T) {
	w := begin(t, 0)
	for i := range 29 {
		p := fmt.Sprintf("/n%02d", i)
		w.does(0, plainNode(p), toldPath(p, 0))
	}
	three := multi(plainNode("/a"), plainNode("/b"), plainNode("/c"))
	for range 3 {
		w.does(0, three, failed(api.ErrQuota, 2))
		w.does(0, multi(plainNode("/a"), drop("/n00"), plainNode("/n00"), set("/n00", "x")), toldNames([]string{"/a", "", "/n00", ""}))
		w.does(0, drop("/a"), told(api.OK))
	}
	w.does(0, drop("/n05"), told(api.OK))
	w.does(0, three, toldNames([]string{"/a", "/b", "/c"}))
	w.does(0, plainNode("/d"), told(api.ErrQuota))
}

// P13.2: all is fired when all are done, in their order.
func TestMultiFires(t *testing.T) {
	w := begin(t, 0, 1)
	w.does(0, plainNode("/a"), toldPath("/a", 0))
	for _, p := range []string{"/a", "/b", "/a/t-00000"} {
		w.raw(1, bytesOf(t, get(p, true)))
	}
	for _, p := range []string{"/", "/a"} {
		w.raw(1, bytesOf(t, kids(p, true)))
	}
	w.does(0, multi(numberedNode("/a/t-"), set("/a", "x"), plainNode("/b"), drop("/b")), toldNames([]string{"/a/t-00000", "", "/b", ""}))
	w.does(1, ping(), told(api.OK, onData(1, "/a/t-00000"), onKids(1, "/a"), onData(1, "/a"), onData(1, "/b"), onKids(1, "/")))
	w.does(1, ping(), told(api.OK))
	// A client's own come with the result.
	w.does(0, get("/a", true), api.Result{Leaf: api.Leaf{Path: "/a", Data: []byte("x"), Version: 1, Owner: -1, Next: 1, Born: 3}})
	w.does(0, kids("/", true), toldNames([]string{"/a"}))
	w.does(0, multi(plainNode("/c"), set("/a", "y")), toldNames([]string{"/c", ""}, onKids(0, "/"), onData(0, "/a")))
}

// P13.2, rule 7: a version that has wrapped keeps no failure from leaving all as it was.
func TestMultiWrapped(t *testing.T) {
	w := begin(t, 0)
	m := w.s.Image()
	m.Leaves = append(m.Leaves, api.Leaf{Path: "/a", Version: math.MaxInt - 1, Owner: -1}, api.Leaf{Path: "/b", Version: math.MaxInt, Owner: -1})
	if !w.s.Load(m) {
		t.Fatal("Load")
	}
	changed := func(version int) {
		t.Helper()
		want := w.s.Image().Leaves
		for _, n := range []int{0, 1, latest - 1, latest} {
			w.does(0, multi(api.Op{Kind: api.OpSet, Path: "/b", Version: n}), failed(api.ErrVersion, 0))
			w.does(0, multi(plainNode("/e"), api.Op{Kind: api.OpDrop, Path: "/b", Version: n}), failed(api.ErrVersion, 1))
		}
		for _, o := range []api.Op{plainNode("/b"), drop("/c"), {Kind: api.OpSet, Path: "/b", Version: latest}, {Kind: api.OpDrop, Path: "/b", Version: 0}} {
			x := w.raw(0, bytesOf(t, multi(set("/b", "x"), numberedNode("/b/t"), o)))
			if x.Code == api.OK || x.At != 2 {
				t.Error(text(x))
			}
			if got := w.s.Image().Leaves; text(got) != text(want) || got[2].Version != version {
				t.Errorf("%+v, not %+v", got, want)
			}
		}
	}
	changed(math.MaxInt)
	w.does(0, multi(set("/a", "1"), set("/b", "1")), toldNames([]string{"", ""}))
	changed(math.MinInt)
	w.does(0, multi(set("/a", "2"), set("/b", "2"), plainNode("/b/c"), plainNode("/d")), toldNames([]string{"", "", "/b/c", "/d"}))
	changed(math.MinInt + 1)
	w.does(0, multi(drop("/b/c"), drop("/b"), drop("/a")), toldNames([]string{"", "", ""}))
	w.leaves("/d")
}
