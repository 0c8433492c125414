package tree

import (
	"fmt"
	"math"
	"strings"
	"testing"

	"stanchion/api"
)

// noPaths are all but paths.
var noPaths = []string{
	"", "a", "a/b", "//", "/a/", "//a", "/a//b", "/q/", "/A", "/a b", "/.", "/..", "/a\n", "/\x00", "\x00", "/a\xff", "/é", " /a", "/a ",
	"/" + strings.Repeat("n", 17), "/q/" + strings.Repeat("n", 17), full + "x", full + "/x", strings.Repeat("/a", 33), "/" + strings.Repeat("n", 1<<20), strings.Repeat("/", 1<<20),
}

var (
	full = strings.Repeat("/abcdefg", 8)    // a path of 64 bytes
	wide = "/" + strings.Repeat("n", 16)    // a path with a part of 16 bytes
	much = []byte(strings.Repeat("x", 128)) // as much data as there may be
	more = []byte(strings.Repeat("y", 129)) // more than that
)

// far: numbers at both ends, and such as come to others in fewer bits.
var far = []int{math.MinInt, math.MinInt + 1, -1 << 40, -1 << 32, -256, -2, -1, 0, 1, 2, 7, 255, 256, 1 << 31, 1 << 32, api.MaxWide, api.MaxNum, math.MaxInt - 1, math.MaxInt}

// words: a node in words.
func words(l api.Leaf) string {
	return fmt.Sprintf("%s %q v%d o%d n%d b%d", l.Path, l.Data, l.Version, l.Owner, l.Next, l.Born)
}

// listed: nodes in words.
func listed(list []api.Leaf) string {
	var s []string
	for _, l := range list {
		s = append(s, words(l))
	}
	return strings.Join(s, "; ")
}

// owners: all owners that these tests have.
var owners = []int{-3, -2, -1, 0, 1, 2, 3, 7, 8, 255, 1 << 32, math.MaxInt, math.MinInt}

// held: all that a tree is, by all of its calls that change nothing.
func held(x *Tree) string {
	all := x.All()
	s := []string{listed(all)}
	for _, l := range all {
		leaf, e := x.Get(l.Path)
		kids, f := x.Kids(l.Path)
		s = append(s, fmt.Sprintf("%s %d, kids %q %d", words(leaf), e, kids, f))
	}
	for _, owner := range owners {
		s = append(s, fmt.Sprintf("of %d %q", owner, x.Owned(owner)))
	}
	return strings.Join(s, "\n")
}

// as: does the tree hold these nodes, and no others?
func as(t *testing.T, x *Tree, want ...string) {
	t.Helper()
	if got := listed(x.All()); got != strings.Join(want, "; ") {
		t.Errorf("the tree is\n\t%s\nnot\n\t%s", got, strings.Join(want, "; "))
	}
}

// node: what Make makes.
type node struct {
	p           string
	data        []byte
	owner, born int
	numbered    bool
}

// made: Make answers this path, and has changed nothing else than the words tell.
func made(t *testing.T, x *Tree, n node, want string) {
	t.Helper()
	p, e := x.Make(n.p, n.data, n.owner, n.born, n.numbered)
	if p != want || e != api.OK {
		t.Errorf("Make(%.80q, %d bytes, %d, %d, %t): %q, %d, not %q", n.p, len(n.data), n.owner, n.born, n.numbered, p, e, want)
	}
}

// unmade: Make answers this error, and nothing has changed.
func unmade(t *testing.T, x *Tree, n node, want api.Errno) {
	t.Helper()
	was := held(x)
	p, e := x.Make(n.p, n.data, n.owner, n.born, n.numbered)
	if p != "" || e != want {
		t.Errorf("Make(%.80q, %d bytes, %d, %d, %t): %q, %d, not %d", n.p, len(n.data), n.owner, n.born, n.numbered, p, e, want)
	}
	unchanged(t, x, was)
}

// dropped: Drop answers this; with an error nothing has changed.
func dropped(t *testing.T, x *Tree, p string, version int, want api.Errno) {
	t.Helper()
	was := held(x)
	e := x.Drop(p, version)
	if e != want {
		t.Errorf("Drop(%.80q, %d): %d, not %d", p, version, e, want)
	}
	if e != api.OK {
		unchanged(t, x, was)
	}
}

// put: Set answers this; with an error nothing has changed.
func put(t *testing.T, x *Tree, p string, data []byte, version, want int, wantError api.Errno) {
	t.Helper()
	was := held(x)
	got, e := x.Set(p, data, version)
	if got != want || e != wantError {
		t.Errorf("Set(%.80q, %d bytes, %d): %d, %d, not %d, %d", p, len(data), version, got, e, want, wantError)
	}
	if e != api.OK {
		unchanged(t, x, was)
	}
}

// unchanged: is the tree as it was?
func unchanged(t *testing.T, x *Tree, was string) {
	t.Helper()
	if got := held(x); got != was {
		t.Errorf("the tree is\n%s\nand was\n%s", got, was)
	}
}

// with: a tree of these paths, made in their order, without data and owners.
func with(t *testing.T, paths ...string) *Tree {
	t.Helper()
	x := New()
	for _, p := range paths {
		made(t, x, node{p: p, owner: -1}, p)
	}
	return x
}

// loaded: a tree of these nodes.
func loaded(t *testing.T, list ...api.Leaf) *Tree {
	t.Helper()
	x := New()
	if !x.Load(list) {
		t.Fatalf("not loaded: %s", listed(list))
	}
	return x
}

// crowd: a tree of as many nodes as there may be: the root, "/b", which is brief, "/q", and children of this.
func crowd(t *testing.T) *Tree {
	t.Helper()
	x := with(t, "/q")
	made(t, x, node{p: "/b", owner: 2}, "/b")
	for i := range 29 {
		p := fmt.Sprintf("/q/k%02d", i)
		made(t, x, node{p: p, owner: -1}, p)
	}
	if n := len(x.All()); n != 32 {
		t.Fatalf("%d nodes", n)
	}
	return x
}
