package tree

import (
	"math"
	"slices"
	"strings"
	"testing"

	"stanchion/api"
)

// P10.3: Get answers the node, and ErrPath or ErrNone where there is none.
func TestGet(t *testing.T) {
	x := with(t, "/a")
	made(t, x, node{"/a/b", []byte("bee"), 3, 9, false}, "/a/b")
	made(t, x, node{"/a/t", much, -1, 10, true}, "/a/t00000")
	put(t, x, "/a/b", []byte("b"), -1, 1, api.OK)
	for _, want := range []string{`/ "" v0 o-1 n0 b0`, `/a "" v0 o-1 n1 b0`, `/a/b "b" v1 o3 n0 b9`, `/a/t00000 "` + string(much) + `" v0 o-1 n0 b10`} {
		p, _, _ := strings.Cut(want, " ")
		if leaf, e := x.Get(p); words(leaf) != want || e != api.OK {
			t.Errorf("%s, %d, not %s", words(leaf), e, want)
		}
	}
	for _, p := range noPaths {
		if leaf, e := x.Get(p); words(leaf) != ` "" v0 o0 n0 b0` || e != api.ErrPath {
			t.Errorf("%.80q: %s, %d", p, words(leaf), e)
		}
	}
	for _, p := range []string{"/b", "/aa", "/a/c", "/a/b/c", "/x/y", "/a/t", wide, full} {
		if leaf, e := x.Get(p); words(leaf) != ` "" v0 o0 n0 b0` || e != api.ErrNone {
			t.Errorf("%q: %s, %d", p, words(leaf), e)
		}
	}
}

// P10.3: Kids answers the children, no grandchildren, not the node and none that only begins alike; they rise by bytes.
func TestKids(t *testing.T) {
	paths := []string{"/a", "/a/b", "/a/b/c", "/a-", "/a-/z", "/a/-", "/a/_", "/a/0", "/a/9", "/a/z", "/a/bb", "/a/b-", "/a/b-/x", "/aa", "/b", "/0", "/_"}
	for _, backward := range []bool{false, true} {
		list := slices.Clone(paths)
		if backward {
			// Parents stand ahead of their children, still.
			slices.SortFunc(list, func(a, b string) int {
				if n := strings.Count(a, "/") - strings.Count(b, "/"); n != 0 {
					return n
				}
				return strings.Compare(b, a)
			})
		}
		x := with(t, list...)
		made(t, x, node{p: "/b/brief", owner: 1}, "/b/brief")
		for _, want := range []struct {
			p    string
			kids []string
		}{
			{"/", []string{"/0", "/_", "/a", "/a-", "/aa", "/b"}},
			{"/a", []string{"/a/-", "/a/0", "/a/9", "/a/_", "/a/b", "/a/b-", "/a/bb", "/a/z"}},
			{"/a/b", []string{"/a/b/c"}},
			{"/a-", []string{"/a-/z"}},
			{"/a/b-", []string{"/a/b-/x"}},
			{"/b", []string{"/b/brief"}},
			{"/aa", nil},
			{"/a/b/c", nil},
			{"/b/brief", nil},
		} {
			if kids, e := x.Kids(want.p); !slices.Equal(kids, want.kids) || e != api.OK {
				t.Errorf("%s: %q, %d, not %q", want.p, kids, e, want.kids)
			}
		}
		dropped(t, x, "/a/b/c", 0, api.OK)
		if kids, e := x.Kids("/a/b"); len(kids) != 0 || e != api.OK {
			t.Error(kids, e)
		}
	}
}

// P10.3: ErrPath or ErrNone where there is no node, though there are nodes that begin alike.
func TestKidsErrors(t *testing.T) {
	x := with(t, "/a", "/a/b")
	for _, p := range noPaths {
		if kids, e := x.Kids(p); len(kids) != 0 || e != api.ErrPath {
			t.Errorf("%.80q: %q, %d", p, kids, e)
		}
	}
	for _, p := range []string{"/b", "/aa", "/a/c", "/a/b/c", "/x/y", wide, full} {
		if kids, e := x.Kids(p); len(kids) != 0 || e != api.ErrNone {
			t.Errorf("%q: %q, %d", p, kids, e)
		}
	}
}

// P10.3: Owned answers the paths of all who have one of these owners, each once, falling by bytes; of -1 the root's too.
func TestOwned(t *testing.T) {
	x := New()
	for _, n := range []node{{p: "/b", owner: 2}, {p: "/a", owner: -1}, {p: "/a-", owner: 2}, {p: "/a/b", owner: 0}, {p: "/c", owner: -7}, {p: "/a/a", owner: 2}, {p: "/a0", owner: 7}, {p: "/a/c", owner: math.MaxInt}} {
		made(t, x, n, n.p)
	}
	for _, c := range []struct {
		owners []int
		want   []string
	}{
		{nil, nil},
		{[]int{}, nil},
		{[]int{2}, []string{"/b", "/a/a", "/a-"}},
		{[]int{0}, []string{"/a/b"}},
		{[]int{7}, []string{"/a0"}},
		{[]int{math.MaxInt}, []string{"/a/c"}},
		{[]int{-1}, []string{"/c", "/a", "/"}},
		{[]int{-7}, nil},
		{[]int{-2, math.MinInt, 1, 3, 1 << 32, 1<<32 + 2, 258}, nil},
		{[]int{0, 2}, []string{"/b", "/a/b", "/a/a", "/a-"}},
		{[]int{2, 0, 2, 2, 0}, []string{"/b", "/a/b", "/a/a", "/a-"}},
		{[]int{1, 7, -1}, []string{"/c", "/a0", "/a", "/"}},
		{[]int{math.MaxInt, 7, -1, 2, 0}, []string{"/c", "/b", "/a0", "/a/c", "/a/b", "/a/a", "/a-", "/a", "/"}},
		{append(make([]int, 1<<20), 7), []string{"/a0", "/a/b"}},
	} {
		if got := x.Owned(c.owners...); !slices.Equal(got, c.want) {
			t.Errorf("%.80v: %q, not %q", c.owners, got, c.want)
		}
	}
	dropped(t, x, "/a/b", 0, api.OK)
	if got := x.Owned(0); len(got) != 0 {
		t.Error(got)
	}
}

// P10.3: All answers all nodes, by rising paths, in whatever order they were made.
func TestAll(t *testing.T) {
	for _, list := range [][]string{{"/a", "/a-", "/a0", "/_", "/b", "/a/b", "/a/b/c", "/a/b-"}, {"/b", "/_", "/a0", "/a-", "/a", "/a/b", "/a/b-", "/a/b/c"}} {
		x := with(t, list...)
		as(t, x, `/ "" v0 o-1 n0 b0`, `/_ "" v0 o-1 n0 b0`, `/a "" v0 o-1 n0 b0`, `/a- "" v0 o-1 n0 b0`, `/a/b "" v0 o-1 n0 b0`, `/a/b- "" v0 o-1 n0 b0`, `/a/b/c "" v0 o-1 n0 b0`, `/a0 "" v0 o-1 n0 b0`, `/b "" v0 o-1 n0 b0`)
	}
}

// P10.3, P2: asking changes nothing, and answers the same again.
func TestAskingChangesNothing(t *testing.T) {
	for _, x := range []*Tree{New(), with(t, "/q", "/a", "/a/b"), crowd(t)} {
		was := held(x)
		for range 3 {
			for _, p := range noPaths {
				x.Get(p)
				x.Kids(p)
			}
			x.Get("/x")
			x.Kids("/x")
			unchanged(t, x, was)
		}
	}
}
