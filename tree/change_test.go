package tree

import (
	"fmt"
	"math"
	"strings"
	"testing"

	"stanchion/api"
)

// P10.2: what is dropped is gone, and nothing else; made anew it is a new one.
func TestDrop(t *testing.T) {
	x := with(t, "/q")
	made(t, x, node{"/q/t", []byte("t"), -1, 1, true}, "/q/t00000")
	made(t, x, node{"/q/b", []byte("b"), 3, 2, false}, "/q/b")
	put(t, x, "/q/b", []byte("c"), 0, 1, api.OK)
	dropped(t, x, "/q/b", 1, api.OK)
	as(t, x, `/ "" v0 o-1 n0 b0`, `/q "" v0 o-1 n1 b0`, `/q/t00000 "t" v0 o-1 n0 b1`)
	dropped(t, x, "/q/b", -1, api.ErrNone)
	dropped(t, x, "/q/b", 1, api.ErrNone)
	if leaf, e := x.Get("/q/b"); words(leaf) != words(api.Leaf{}) || e != api.ErrNone {
		t.Error(words(leaf), e)
	}
	made(t, x, node{"/q/b", nil, -1, 5, false}, "/q/b")
	as(t, x, `/ "" v0 o-1 n0 b0`, `/q "" v0 o-1 n1 b0`, `/q/b "" v0 o-1 n0 b5`, `/q/t00000 "t" v0 o-1 n0 b1`)
	dropped(t, x, "/q/b", 0, api.OK)
	dropped(t, x, "/q/t00000", -1, api.OK)
	dropped(t, x, "/q", -1, api.OK)
	as(t, x, `/ "" v0 o-1 n0 b0`)
	made(t, x, node{"/q", nil, -1, 6, false}, "/q")
	made(t, x, node{"/q/t", nil, -1, 7, true}, "/q/t00000")
}

// P10.2: ErrPath of what isn't a path, and of the root, whatever the version.
func TestDropPath(t *testing.T) {
	for _, x := range []*Tree{New(), with(t, "/q", "/a"), crowd(t)} {
		for _, p := range append([]string{"/"}, noPaths...) {
			for _, version := range []int{-1, 0, 1, math.MaxInt} {
				dropped(t, x, p, version, api.ErrPath)
			}
		}
	}
}

// P10.2: ErrNone of what isn't there, whatever the version.
func TestDropNone(t *testing.T) {
	x := with(t, "/q", "/q/a")
	for _, p := range []string{"/a", "/qq", "/q/b", "/q/a/b", "/x/y", wide, full} {
		for _, version := range far {
			dropped(t, x, p, version, api.ErrNone)
		}
	}
}

// P10.2: any version below 0 is any; else it must be the node's, children or not.
func TestDropVersion(t *testing.T) {
	for _, have := range []int{0, 1, 2, 7, 256, 1 << 32, math.MaxInt} {
		for _, version := range append([]int{have - 1, have, have + 1, have + 1<<32, have ^ 1<<32, have ^ 256}, far...) {
			x := loaded(t, api.Leaf{Path: "/", Owner: -1}, api.Leaf{Path: "/a", Owner: -1, Version: have}, api.Leaf{Path: "/b", Owner: -1, Version: have}, api.Leaf{Path: "/b/c", Owner: 2, Version: have})
			fits := version < 0 || version == have
			if !fits {
				dropped(t, x, "/a", version, api.ErrVersion)
				dropped(t, x, "/b", version, api.ErrVersion)
				dropped(t, x, "/b/c", version, api.ErrVersion)
				continue
			}
			dropped(t, x, "/b", version, api.ErrKids)
			dropped(t, x, "/a", version, api.OK)
			dropped(t, x, "/b/c", version, api.OK)
			dropped(t, x, "/b", version, api.OK)
			as(t, x, `/ "" v0 o-1 n0 b0`)
		}
	}
}

// P10.2: ErrKids of what has children; those that only begin alike are none.
func TestDropKids(t *testing.T) {
	x := with(t, "/a", "/a-", "/a0", "/aa", "/a/b", "/a/b/c", "/a/b0", "/b", "/b/a")
	dropped(t, x, "/a", -1, api.ErrKids)
	dropped(t, x, "/a", 0, api.ErrKids)
	dropped(t, x, "/a/b", 0, api.ErrKids)
	dropped(t, x, "/b", 0, api.ErrKids)
	dropped(t, x, "/a/b/c", 0, api.OK)
	dropped(t, x, "/a/b", 0, api.OK)
	dropped(t, x, "/a", 0, api.ErrKids)
	dropped(t, x, "/a/b0", 0, api.OK)
	dropped(t, x, "/a", 0, api.OK)
	as(t, x, `/ "" v0 o-1 n0 b0`, `/a- "" v0 o-1 n0 b0`, `/a0 "" v0 o-1 n0 b0`, `/aa "" v0 o-1 n0 b0`, `/b "" v0 o-1 n0 b0`, `/b/a "" v0 o-1 n0 b0`)
	// A child that is brief is one too.
	made(t, x, node{"/aa/b", nil, 1, 0, false}, "/aa/b")
	dropped(t, x, "/aa", -1, api.ErrKids)
}

// P10.2: the node has these data, its Version is one more, and all else is as it was.
func TestSet(t *testing.T) {
	list := []api.Leaf{{Path: "/", Owner: -1, Next: 3}, {Path: "/a", Data: []byte("a"), Version: 4, Owner: -1, Next: 5, Born: 6}, {Path: "/a/b", Data: much, Version: 7, Owner: 8, Born: 9}}
	x := loaded(t, list...)
	put(t, x, "/a", []byte("new"), 4, 5, api.OK)
	put(t, x, "/a/b", nil, 7, 8, api.OK)
	put(t, x, "/", []byte("root"), 0, 1, api.OK)
	as(t, x, `/ "root" v1 o-1 n3 b0`, `/a "new" v5 o-1 n5 b6`, `/a/b "" v8 o8 n0 b9`)
	put(t, x, "/", []byte("root"), -1, 2, api.OK)
	put(t, x, "/", []byte{0, 255}, 2, 3, api.OK)
	put(t, x, "/a", []byte("new"), math.MinInt, 6, api.OK)
	put(t, x, "/a/b", much, -2, 9, api.OK)
	as(t, x, `/ "\x00\xff" v3 o-1 n3 b0`, `/a "new" v6 o-1 n5 b6`, `/a/b "`+string(much)+`" v9 o8 n0 b9`)
}

// P10.2: ErrPath of what isn't a path, and ErrNone of what isn't there, ahead of all else; of the root neither.
func TestSetPath(t *testing.T) {
	for _, x := range []*Tree{New(), with(t, "/q", "/q/a"), crowd(t)} {
		for _, version := range []int{-1, 0, 1, math.MaxInt} {
			for _, data := range [][]byte{nil, much, more} {
				for _, p := range noPaths {
					put(t, x, p, data, version, 0, api.ErrPath)
				}
				for _, p := range []string{"/a", "/qq", "/q/b", "/q/a/b", "/x/y", wide, full} {
					put(t, x, p, data, version, 0, api.ErrNone)
				}
			}
		}
	}
	x := New()
	put(t, x, "/", nil, 0, 1, api.OK)
}

// P10.2: any version below 0 is any; else it must be the node's, ahead of ErrQuota of the data.
func TestSetVersion(t *testing.T) {
	for _, have := range []int{0, 1, 2, 7, 256, 1 << 32, math.MaxInt - 1} {
		for _, version := range append([]int{have - 1, have, have + 1, have + 1<<32, have ^ 1<<32, have ^ 256}, far...) {
			for _, p := range []string{"/", "/a"} {
				x := loaded(t, api.Leaf{Path: "/", Owner: -1, Version: have}, api.Leaf{Path: "/a", Owner: 1, Version: have})
				if version >= 0 && version != have {
					put(t, x, p, much, version, 0, api.ErrVersion)
					put(t, x, p, more, version, 0, api.ErrVersion)
					continue
				}
				put(t, x, p, more, version, 0, api.ErrQuota)
				put(t, x, p, much, version, have+1, api.OK)
			}
		}
	}
}

// P10.2: ErrQuota of more than 128 bytes of data.
func TestSetData(t *testing.T) {
	x := with(t, "/a")
	version := 0
	for n := range 300 {
		data := []byte(strings.Repeat("d", n))
		if n > 128 {
			put(t, x, "/a", data, version, 0, api.ErrQuota)
			put(t, x, "/", data, -1, 0, api.ErrQuota)
			continue
		}
		version++
		put(t, x, "/a", data, version-1, version, api.OK)
		put(t, x, "/", data, -1, version, api.OK)
		as(t, x, fmt.Sprintf(`/ %q v%d o-1 n0 b0`, data, version), fmt.Sprintf(`/a %q v%d o-1 n0 b0`, data, version))
	}
	put(t, x, "/a", make([]byte, 1<<20), -1, 0, api.ErrQuota)
}

// Rule 7: behind the greatest Version comes the least one.
func TestSetWraps(t *testing.T) {
	x := loaded(t, api.Leaf{Path: "/", Owner: -1}, api.Leaf{Path: "/a", Owner: -1, Version: math.MaxInt})
	put(t, x, "/a", []byte("a"), math.MaxInt, math.MinInt, api.OK)
	put(t, x, "/a", []byte("b"), 0, 0, api.ErrVersion)
	put(t, x, "/a", []byte("b"), math.MaxInt, 0, api.ErrVersion)
	put(t, x, "/a", []byte("b"), math.MinInt, math.MinInt+1, api.OK)
	dropped(t, x, "/a", 0, api.ErrVersion)
	dropped(t, x, "/a", -1, api.OK)
}

// The chapter's examples.
func TestExamples(t *testing.T) {
	x := with(t, "/q")
	made(t, x, node{"/q/t-", nil, -1, 0, true}, "/q/t-00000")
	made(t, x, node{"/q/t-", nil, -1, 0, true}, "/q/t-00001")
	dropped(t, x, "/q", -1, api.ErrKids)
	put(t, x, "/q", []byte("d"), 0, 1, api.OK)
	put(t, x, "/q", []byte("d"), 0, 0, api.ErrVersion)
}
