package tree

import (
	"fmt"
	"math"
	"strings"
	"testing"

	"stanchion/api"
)

// The chapter: at first there is the root alone.
func TestNew(t *testing.T) {
	x := New()
	as(t, x, `/ "" v0 o-1 n0 b0`)
	leaf, e := x.Get("/")
	if words(leaf) != `/ "" v0 o-1 n0 b0` || e != api.OK {
		t.Error(words(leaf), e)
	}
	if kids, e := x.Kids("/"); len(kids) != 0 || e != api.OK {
		t.Error(kids, e)
	}
	if list := x.Owned(-1); len(list) != 1 || list[0] != "/" {
		t.Error(list)
	}
}

// P10.1: nodes with all that they are handed, each in its place.
func TestMake(t *testing.T) {
	x := New()
	made(t, x, node{"/b", []byte("bee"), -1, 3, false}, "/b")
	made(t, x, node{"/a", []byte("ay"), 5, 1, false}, "/a")
	made(t, x, node{"/b/c", nil, 0, 2, false}, "/b/c")
	made(t, x, node{"/b/b", much, -1, 0, false}, "/b/b")
	made(t, x, node{"/b/b/b", []byte{0, 255}, 7, math.MaxInt, false}, "/b/b/b")
	as(t, x, `/ "" v0 o-1 n0 b0`, `/a "ay" v0 o5 n0 b1`, `/b "bee" v0 o-1 n0 b3`, `/b/b "`+string(much)+`" v0 o-1 n0 b0`, `/b/b/b "\x00\xff" v0 o7 n0 b9223372036854775807`, `/b/c "" v0 o0 n0 b2`)
}

// P10.1: paths as long and as deep as they can be.
func TestMakeDeep(t *testing.T) {
	x := New()
	made(t, x, node{p: wide, owner: -1}, wide)
	for n := 2; n <= 60; n += 2 {
		p := strings.Repeat("/a", n/2)
		made(t, x, node{p: p, owner: -1}, p)
	}
	// With the root, these are 32.
	unmade(t, x, node{p: strings.Repeat("/a", 31), owner: -1}, api.ErrQuota)
	dropped(t, x, wide, 0, api.OK)
	made(t, x, node{p: strings.Repeat("/a", 31), owner: -1}, strings.Repeat("/a", 31))
	x = New()
	for n := 8; n <= 64; n += 8 {
		made(t, x, node{p: full[:n], owner: -1}, full[:n])
	}
}

// P10.1: ErrPath of what isn't a path, and of the root, ahead of all else.
func TestMakePath(t *testing.T) {
	for _, x := range []*Tree{New(), with(t, "/q", "/a"), crowd(t)} {
		for _, p := range append([]string{"/"}, noPaths...) {
			for _, numbered := range []bool{false, true} {
				unmade(t, x, node{p, nil, -1, 0, numbered}, api.ErrPath)
				unmade(t, x, node{p, more, 1, 1, numbered}, api.ErrPath)
			}
		}
	}
}

// P10.1: ErrQuota of more than 128 bytes of data, ahead of all but ErrPath of the path.
func TestMakeData(t *testing.T) {
	for n := range 300 {
		x := New()
		of := node{"/a", []byte(strings.Repeat("d", n)), -1, 0, n%2 == 0}
		if n > 128 {
			unmade(t, x, of, api.ErrQuota)
			continue
		}
		want := []string{"/a00000", "/a"}[n%2]
		made(t, x, of, want)
		as(t, x, []string{`/ "" v0 o-1 n1 b0`, `/ "" v0 o-1 n0 b0`}[n%2], want+` "`+strings.Repeat("d", n)+`" v0 o-1 n0 b0`)
	}
	x := crowd(t)
	for _, numbered := range []bool{false, true} {
		unmade(t, x, node{"/x/y", more, -1, 0, numbered}, api.ErrQuota)
		unmade(t, x, node{"/b/y", more, -1, 0, numbered}, api.ErrQuota)
		unmade(t, x, node{wide, more, -1, 0, numbered}, api.ErrQuota)
		unmade(t, x, node{"/q", more, -1, 0, numbered}, api.ErrQuota)
		unmade(t, x, node{"/q", make([]byte, 1<<20), -1, 0, numbered}, api.ErrQuota)
	}
}

// P10.1: ErrNone where the parent isn't there, ahead of what comes behind it.
func TestMakeNone(t *testing.T) {
	for _, x := range []*Tree{with(t, "/q", "/a", "/a/b"), crowd(t)} {
		for _, p := range []string{"/x/y", "/q/x/y", "/a/c/d", "/qq/a", "/q-/a", "/x/y/z", "/x" + wide, full} {
			unmade(t, x, node{p, nil, -1, 0, false}, api.ErrNone)
			unmade(t, x, node{p, much, 1, 0, true}, api.ErrNone)
		}
	}
	x := with(t, "/a")
	dropped(t, x, "/a", 0, api.OK)
	unmade(t, x, node{p: "/a/b", owner: -1}, api.ErrNone)
}

// P10.1: ErrBrief where the parent has an owner, ahead of what comes behind it.
func TestMakeBrief(t *testing.T) {
	for _, owner := range []int{0, 1, 7, 8, 1 << 32, math.MaxInt} {
		x := with(t, "/q")
		made(t, x, node{"/b", nil, owner, 0, false}, "/b")
		made(t, x, node{"/q/b", nil, owner, 0, false}, "/q/b")
		for _, p := range []string{"/b/c", "/q/b/c", "/b" + wide} {
			for _, o := range []int{-1, owner, 3} {
				unmade(t, x, node{p, nil, o, 0, false}, api.ErrBrief)
				unmade(t, x, node{p, much, o, 0, true}, api.ErrBrief)
			}
		}
		// What is below a child that can't be there has no parent.
		unmade(t, x, node{p: "/b/c/d", owner: -1}, api.ErrNone)
	}
	unmade(t, crowd(t), node{p: "/b/c", owner: -1}, api.ErrBrief)
	for _, owner := range []int{-1, -2, math.MinInt} {
		x := New()
		made(t, x, node{p: "/b", owner: owner}, "/b")
		made(t, x, node{p: "/b/c", owner: owner}, "/b/c")
	}
}

// P10.1: ErrThere where there is one, be it brief or not, with whatever it is made; ahead of ErrQuota of too many nodes.
func TestMakeThere(t *testing.T) {
	x := with(t, "/q", "/q/t")
	made(t, x, node{"/q/b", []byte("b"), 3, 4, false}, "/q/b")
	for _, y := range []*Tree{x, crowd(t)} {
		for _, l := range y.All()[1:] {
			unmade(t, y, node{l.Path, l.Data, l.Owner, l.Born, false}, api.ErrThere)
			unmade(t, y, node{l.Path, much, 1, 9, false}, api.ErrThere)
		}
	}
}

// P10.1: ErrQuota where there are 32 nodes with the root; once one is gone there is room for one.
func TestMakeNodes(t *testing.T) {
	x := New()
	for i := range 31 {
		p := fmt.Sprintf("/n%d", i)
		made(t, x, node{p: p, owner: i%3 - 1}, p)
	}
	for range 2 {
		unmade(t, x, node{p: "/z", owner: -1}, api.ErrQuota)
		unmade(t, x, node{p: "/z", owner: -1, numbered: true}, api.ErrQuota)
		unmade(t, x, node{p: "/n0/z", owner: -1}, api.ErrQuota)
		dropped(t, x, "/n7", 0, api.OK)
		made(t, x, node{p: "/n7", owner: -1}, "/n7")
	}
	as(t, loaded(t, x.All()...), strings.Split(listed(x.All()), "; ")...)
}

// P10.1: an owner below -1 is -1, and a born below 0 is 0; no other is changed.
func TestMakeNumbers(t *testing.T) {
	for _, owner := range far {
		for _, born := range far {
			x := New()
			made(t, x, node{"/a", nil, owner, born, false}, "/a")
			made(t, x, node{"/t", nil, owner, born, true}, "/t00000")
			as(t, x, `/ "" v0 o-1 n1 b0`, fmt.Sprintf(`/a "" v0 o%d n0 b%d`, max(owner, -1), max(born, 0)), fmt.Sprintf(`/t00000 "" v0 o%d n0 b%d`, max(owner, -1), max(born, 0)))
		}
	}
}

// P10.1: numbers are the parent's, whatever stands ahead of them, and none comes twice.
func TestMakeNumbered(t *testing.T) {
	x := with(t, "/q", "/r")
	made(t, x, node{"/q/t-", []byte("a"), -1, 3, true}, "/q/t-00000")
	made(t, x, node{"/q/t-", []byte("b"), 2, 4, true}, "/q/t-00001")
	made(t, x, node{"/q/u", nil, -1, 5, true}, "/q/u00002")
	made(t, x, node{"/r/t-", nil, -1, 6, true}, "/r/t-00000")
	made(t, x, node{"/q", nil, -1, 7, true}, "/q00000")
	made(t, x, node{"/q/t-00000", nil, -1, 8, true}, "/q/t-0000000003")
	made(t, x, node{"/q/t-00000/x", nil, -1, 9, true}, "/q/t-00000/x00000")
	dropped(t, x, "/q/t-00001", 0, api.OK)
	made(t, x, node{"/q/t-", nil, -1, 10, true}, "/q/t-00004")
	made(t, x, node{"/q/v", nil, -1, 11, false}, "/q/v")
	put(t, x, "/q", []byte("set"), 0, 1, api.OK)
	made(t, x, node{"/q/t-", nil, 0, 12, true}, "/q/t-00005")
	as(t, x, `/ "" v0 o-1 n1 b0`, `/q "set" v1 o-1 n6 b0`,
		`/q/t-00000 "a" v0 o-1 n1 b3`, `/q/t-00000/x00000 "" v0 o-1 n0 b9`, `/q/t-0000000003 "" v0 o-1 n0 b8`, `/q/t-00004 "" v0 o-1 n0 b10`, `/q/t-00005 "" v0 o0 n0 b12`, `/q/u00002 "" v0 o-1 n0 b5`, `/q/v "" v0 o-1 n0 b11`,
		`/q00000 "" v0 o-1 n0 b7`, `/r "" v0 o-1 n1 b0`, `/r/t-00000 "" v0 o-1 n0 b6`)
}

// P10.1: a number isn't used up by an error, and one that is taken gives ErrThere again and again.
func TestMakeNumberedErrors(t *testing.T) {
	x := with(t, "/q", "/q/t00000", "/q/t00001")
	made(t, x, node{"/q/b", nil, 1, 0, false}, "/q/b")
	for range 3 {
		unmade(t, x, node{"/q/t", nil, -1, 0, true}, api.ErrThere)
		unmade(t, x, node{"/q/t", more, -1, 0, true}, api.ErrQuota)
		unmade(t, x, node{"/q/b/t", nil, -1, 0, true}, api.ErrBrief)
		unmade(t, x, node{"/q" + wide, nil, -1, 0, true}, api.ErrPath)
	}
	made(t, x, node{"/q/u", nil, -1, 0, true}, "/q/u00000")
	unmade(t, x, node{"/q/t", nil, -1, 0, true}, api.ErrThere)
	dropped(t, x, "/q/t00001", 0, api.OK)
	made(t, x, node{"/q/t", nil, -1, 0, true}, "/q/t00001")
	made(t, x, node{"/q/t", nil, -1, 0, true}, "/q/t00002")
}

// P10.1: ErrPath where the number makes a part or a path too long; ahead of ErrThere and of ErrQuota of too many nodes.
func TestMakeNumberedSizes(t *testing.T) {
	x := with(t, "/q")
	for n := 1; n <= 16; n++ {
		p := "/q/" + strings.Repeat("n", n)
		if n > 11 {
			unmade(t, x, node{p: p, owner: -1, numbered: true}, api.ErrPath)
			continue
		}
		made(t, x, node{p: p, owner: -1, numbered: true}, fmt.Sprintf("%s%05d", p, n-1))
	}
	x = New()
	for n := 8; n <= 56; n += 8 {
		made(t, x, node{p: full[:n], owner: -1}, full[:n])
	}
	made(t, x, node{p: full[:56] + "/ab", owner: -1, numbered: true}, full[:56]+"/ab00000")
	unmade(t, x, node{p: full[:56] + "/abc", owner: -1, numbered: true}, api.ErrPath)
	unmade(t, x, node{p: full, owner: -1, numbered: true}, api.ErrPath)
	made(t, x, node{p: full, owner: -1}, full)
	unmade(t, x, node{p: full, owner: -1, numbered: true}, api.ErrPath)
	y := crowd(t)
	unmade(t, y, node{p: wide, owner: -1, numbered: true}, api.ErrPath)
	unmade(t, y, node{p: "/q/k", owner: -1, numbered: true}, api.ErrQuota)
}

// P10.1: the numbers end at 99,999; a node whose Next is greater numbers no child, but has others.
func TestMakeNumberedEnd(t *testing.T) {
	for _, next := range []int{0, 9, 99, 9999, 10000, 99998, 99999, 100000, 100001, 1 << 31, 1 << 32, 1<<32 + 7, api.MaxWide, api.MaxNum, math.MaxInt} {
		x := loaded(t, api.Leaf{Path: "/", Owner: -1, Next: next})
		if next > 99999 {
			unmade(t, x, node{p: "/t", owner: -1, numbered: true}, api.ErrPath)
		} else {
			want := fmt.Sprintf("/t%05d", next)
			made(t, x, node{p: "/t", owner: -1, numbered: true}, want)
			as(t, x, fmt.Sprintf(`/ "" v0 o-1 n%d b0`, next+1), want+` "" v0 o-1 n0 b0`)
		}
		made(t, x, node{p: "/t", owner: -1}, "/t")
	}
	// A Next at the end comes ahead of one that is taken, and of too many nodes.
	x := loaded(t, api.Leaf{Path: "/", Owner: -1, Next: 99999}, api.Leaf{Path: "/t99999", Owner: -1})
	unmade(t, x, node{p: "/t", owner: -1, numbered: true}, api.ErrThere)
	list := crowd(t).All()
	list[0].Next = 100000
	unmade(t, loaded(t, list...), node{p: "/t", owner: -1, numbered: true}, api.ErrPath)
}

// P10.1: among 32 nodes ErrThere comes ahead of ErrQuota for numbered ones too.
func TestMakeNumberedThereFull(t *testing.T) {
	x := New()
	for i := range 31 {
		p := fmt.Sprintf("/t%05d", i)
		made(t, x, node{p: p, owner: -1}, p)
	}
	unmade(t, x, node{p: "/t", owner: -1, numbered: true}, api.ErrThere)
	unmade(t, x, node{p: "/u", owner: -1, numbered: true}, api.ErrQuota)
}
