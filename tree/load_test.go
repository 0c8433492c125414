package tree

import (
	"fmt"
	"math"
	"slices"
	"strings"
	"testing"

	"stanchion/api"
)

var top = api.Leaf{Path: "/", Owner: -1}

// takes: the tree has these nodes, whatever it had.
func takes(t *testing.T, list ...api.Leaf) {
	t.Helper()
	for _, x := range []*Tree{New(), with(t, "/old", "/old/er"), crowd(t)} {
		if !x.Load(list) {
			t.Errorf("not loaded: %s", listed(list))
			continue
		}
		as(t, x, strings.Split(listed(list), "; ")...)
		again := New()
		if !again.Load(x.All()) || held(again) != held(x) {
			t.Errorf("not as it was: %s", listed(again.All()))
		}
	}
}

// refuses: the tree has what it had.
func refuses(t *testing.T, list ...api.Leaf) {
	t.Helper()
	for _, x := range []*Tree{New(), with(t, "/old", "/old/er"), crowd(t)} {
		was := held(x)
		if x.Load(list) {
			t.Errorf("loaded: %.2000s", listed(list))
		}
		unchanged(t, x, was)
	}
}

// plain: nodes of these paths behind the root, without data and owners.
func plain(paths ...string) []api.Leaf {
	list := []api.Leaf{top}
	for _, p := range paths {
		list = append(list, api.Leaf{Path: p, Owner: -1})
	}
	return list
}

// P10.4: lists that are such as All answers.
func TestLoad(t *testing.T) {
	takes(t, top)
	takes(t, api.Leaf{Path: "/", Data: []byte("data"), Version: 3, Owner: -1, Next: 9})
	takes(t, api.Leaf{Path: "/", Data: much, Version: math.MaxInt, Owner: -1, Next: math.MaxInt})
	takes(t, plain("/a")...)
	takes(t, plain("/_", "/a", "/a-", "/a/b", "/a/b-", "/a/b/c", "/a0", "/b")...)
	takes(t, plain(wide, "/x")...)
	takes(t, plain(full[:8], full[:16], full[:24], full[:32], full[:40], full[:48], full[:56], full)...)
	takes(t, top, api.Leaf{Path: "/a", Data: []byte("ay"), Version: 1, Owner: -1, Next: 2, Born: 3}, api.Leaf{Path: "/a/b", Data: much, Version: 4, Owner: 5, Born: 6}, api.Leaf{Path: "/a/c", Owner: 0})
}

// P10.4: all numbers, each in each place: none is below 0, but an owner may be -1; the root's owner and Born are as told.
func TestLoadNumbers(t *testing.T) {
	either := func(ok bool, list ...api.Leaf) {
		t.Helper()
		if ok {
			takes(t, list...)
		} else {
			refuses(t, list...)
		}
	}
	for _, n := range far {
		either(n >= 0, api.Leaf{Path: "/", Owner: -1, Version: n})
		either(n >= 0, api.Leaf{Path: "/", Owner: -1, Next: n})
		either(n == 0, api.Leaf{Path: "/", Owner: -1, Born: n})
		either(n == -1, api.Leaf{Path: "/", Owner: n})
		for _, at := range []int{1, 2, 3} {
			list := plain("/a", "/a/b", "/c")
			list[at].Version = n
			either(n >= 0, list...)
			list = plain("/a", "/a/b", "/c")
			list[at].Next = n
			either(n >= 0, list...)
			list = plain("/a", "/a/b", "/c")
			list[at].Born = n
			either(n >= 0, list...)
			list = plain("/a", "/a/b", "/c")
			list[at].Owner = n
			either(n == -1 || n >= 0 && at != 1, list...)
		}
	}
}

// P10.4: data of at most 128 bytes, of the root too.
func TestLoadData(t *testing.T) {
	for n := range 300 {
		for at := range 3 {
			list := plain("/a", "/a/b")
			list[at].Data = []byte(strings.Repeat("d", n))
			if n <= 128 {
				takes(t, list...)
			} else {
				refuses(t, list...)
			}
		}
	}
	refuses(t, top, api.Leaf{Path: "/a", Data: make([]byte, 1<<20), Owner: -1})
}

// P10.4: the first path is the root's, and no other is.
func TestLoadRoot(t *testing.T) {
	refuses(t)
	refuses(t, []api.Leaf{}...)
	refuses(t, api.Leaf{})
	refuses(t, plain("/a")[1:]...)
	refuses(t, plain("/a", "/a/b")[1:]...)
	refuses(t, top, top)
	refuses(t, plain("/", "/a")...)
	refuses(t, plain("/a", "/")...)
	refuses(t, api.Leaf{Path: "/a", Owner: -1}, top)
	refuses(t, api.Leaf{Owner: -1}, top)
	refuses(t, api.Leaf{Owner: -1}, api.Leaf{Path: "/a", Owner: -1})
	for _, p := range noPaths {
		refuses(t, api.Leaf{Path: p, Owner: -1})
	}
}

// P10.4: all others are paths.
func TestLoadPaths(t *testing.T) {
	for _, p := range noPaths {
		refuses(t, plain(p)...)
		for _, others := range [][]string{{"/q"}, {"/a"}, {full[:8], full[:16], full[:24], full[:32], full[:40], full[:48], full[:56], full}, {"/a", "/a/b"}} {
			paths := append(slices.Clone(others), p)
			slices.Sort(paths)
			refuses(t, plain(paths...)...)
		}
	}
}

// P10.4: the paths rise by bytes, and none stands there twice.
func TestLoadRising(t *testing.T) {
	for _, paths := range [][]string{
		{"/b", "/a"}, {"/a", "/a"}, {"/a", "/b", "/b"}, {"/a", "/b", "/a"}, {"/a", "/a/b", "/a-"}, {"/a", "/a0", "/a/b"}, {"/a/b", "/a"}, {"/a", "/a/b", "/a/b/c", "/a/b-"},
		{"/a", "/b", "/a/b"}, {"/a", "/a/b", "/a/a"}, {"/a", "/c", "/b"}, {"/aa", "/a"}, {"/_", "/0"},
	} {
		refuses(t, plain(paths...)...)
	}
	paths := []string{"/_", "/a", "/a-", "/a/b", "/a/b-", "/a/b/c", "/a0", "/b"}
	for i := range paths {
		for j := range i {
			swapped := slices.Clone(paths)
			swapped[i], swapped[j] = swapped[j], swapped[i]
			refuses(t, plain(swapped...)...)
		}
		refuses(t, plain(slices.Insert(slices.Clone(paths), i, paths[i])...)...)
	}
}

// P10.4: each has its parent in the list, which isn't brief.
func TestLoadParents(t *testing.T) {
	refuses(t, plain("/a/b")...)
	refuses(t, plain("/a", "/a/b/c")...)
	refuses(t, plain("/a", "/aa/b")...)
	refuses(t, plain("/a", "/b/c")...)
	refuses(t, plain("/a", "/a-/b")...)
	refuses(t, plain("/old/er")...)
	refuses(t, plain("/old/er/still")...)
	refuses(t, plain("/q/k00")...)
	paths := []string{"/_", "/a", "/a-", "/a/b", "/a/b-", "/a/b/c", "/a0", "/b"}
	for _, gone := range paths {
		left := slices.DeleteFunc(slices.Clone(paths), func(p string) bool { return p == gone })
		if gone == "/a" || gone == "/a/b" {
			refuses(t, plain(left...)...)
		} else {
			takes(t, plain(left...)...)
		}
	}
	for i, p := range paths {
		for _, owner := range []int{0, 1, 7, math.MaxInt} {
			list := plain(paths...)
			list[i+1].Owner = owner
			if p == "/a" || p == "/a/b" {
				refuses(t, list...)
			} else {
				takes(t, list...)
			}
		}
	}
}

// P10.4: at most 32 nodes.
func TestLoadSizes(t *testing.T) {
	for _, n := range []int{30, 31, 32, 33, 34, 64, 256 + 32, 1 << 16} {
		var paths []string
		for i := range n - 1 {
			paths = append(paths, fmt.Sprintf("/n%07d", i))
		}
		if n <= 32 {
			takes(t, plain(paths...)...)
		} else {
			refuses(t, plain(paths...)...)
		}
	}
	x := loaded(t, crowd(t).All()...)
	unmade(t, x, node{p: "/z", owner: -1}, api.ErrQuota)
	dropped(t, x, "/b", 0, api.OK)
	made(t, x, node{p: "/z", owner: -1}, "/z")
	unmade(t, x, node{p: "/zz", owner: -1}, api.ErrQuota)
}

// P10.4: what is loaded goes on as what was made: numbers, versions, owners, children.
func TestLoadGoesOn(t *testing.T) {
	first := with(t, "/q")
	made(t, first, node{"/q/t", []byte("t"), 1, 3, true}, "/q/t00000")
	put(t, first, "/q", []byte("q"), 0, 1, api.OK)
	for _, x := range []*Tree{first, loaded(t, first.All()...)} {
		unmade(t, x, node{p: "/q/t00000/a", owner: -1}, api.ErrBrief)
		made(t, x, node{"/q/t", nil, -1, 4, true}, "/q/t00001")
		dropped(t, x, "/q", 1, api.ErrKids)
		put(t, x, "/q", nil, 0, 0, api.ErrVersion)
		put(t, x, "/q", nil, 1, 2, api.OK)
		dropped(t, x, "/q/t00000", 0, api.OK)
		as(t, x, `/ "" v0 o-1 n0 b0`, `/q "" v2 o-1 n2 b0`, `/q/t00001 "" v0 o-1 n0 b4`)
	}
}
