package tree

import (
	"bytes"
	"slices"
	"testing"
	"unsafe"

	"stanchion/api"
)

// roomy: the bytes s, with other bytes behind their length in their memory; and all that memory.
func roomy(s string) (b, whole []byte) {
	whole = append([]byte(s), "behind the length"...)
	return whole[:len(s)], whole
}

// borrowed: a text that stands in the bytes that are answered with it.
func borrowed(s string) (string, []byte) {
	b := []byte(s)
	return unsafe.String(unsafe.SliceData(b), len(b)), b
}

// spoil: all that b's memory holds is another, spare room too.
func spoil(b []byte) {
	b = b[:cap(b)]
	for i := range b {
		b[i] ^= 0x55
	}
}

// spoilTexts: likewise.
func spoilTexts(list []string) {
	list = list[:cap(list)]
	for i := range list {
		list[i] = "/spoiled"
	}
}

// spoilNodes: likewise, and the data of each.
func spoilNodes(list []api.Leaf) {
	for _, l := range list {
		spoil(l.Data)
	}
	list = list[:cap(list)]
	for i := range list {
		list[i] = api.Leaf{Path: "/spoiled", Data: []byte("spoiled"), Version: 9, Owner: 9, Next: 9, Born: 9}
	}
}

// P10.5: data are as they were, and aren't kept.
func TestDataMemory(t *testing.T) {
	for _, s := range []string{"", "d", "data", string(much), string(more)} {
		data, whole := roomy(s)
		was := bytes.Clone(whole)
		x := with(t, "/b")
		for _, n := range []node{{p: "/a", owner: -1}, {p: "/t", owner: 1, numbered: true}, {p: "/"}, {p: "/x/y"}, {p: "/b"}} {
			x.Make(n.p, data, n.owner, n.born, n.numbered)
		}
		for _, p := range []string{"/b", "/", "/x", ""} {
			x.Set(p, data, 7)
			x.Set(p, data, -1)
		}
		if !bytes.Equal(whole, was) {
			t.Errorf("%q", whole)
		}
		want := held(x)
		spoil(whole)
		unchanged(t, x, want)
	}
}

// P10.5: a list that is loaded is as it was, what stands behind its length too, and isn't kept.
func TestLoadMemory(t *testing.T) {
	for _, wrong := range []bool{false, true} {
		data, whole := roomy("data")
		list := append(plain("/a", "/b", "/c"), api.Leaf{Path: "behind"}, api.Leaf{Path: "the length"})
		list[0].Data, list[1].Data, list[3].Data = data, data, data[:0]
		if wrong {
			list[3].Born = -1
		}
		words, were := listed(list), bytes.Clone(whole)
		x := with(t, "/old")
		was := held(x)
		if x.Load(list[:4]) == wrong {
			t.Fatal("Load")
		}
		if listed(list) != words || !bytes.Equal(whole, were) {
			t.Errorf("%s, %q", listed(list), whole)
		}
		if !wrong {
			was = held(x)
		}
		spoil(whole)
		spoilNodes(list)
		unchanged(t, x, was)
	}
}

// P10.5, rule 5: texts too aren't kept, and no answer stands in the memory of one that was handed in.
func TestTextsMemory(t *testing.T) {
	x := New()
	var all [][]byte
	of := func(s string) string {
		text, b := borrowed(s)
		all = append(all, b)
		return text
	}
	a, _ := x.Make(of("/a"), nil, -1, 0, false)
	b, _ := x.Make(of("/a/t"), nil, 1, 0, true)
	x.Set(of("/a"), []byte("set"), -1)
	leaf, _ := x.Get(of("/a/t00000"))
	kids, _ := x.Kids(of("/a"))
	x.Make(of("/d"), nil, -1, 0, false)
	x.Drop(of("/d"), 0)
	y := New()
	y.Load([]api.Leaf{{Path: of("/"), Owner: -1}, {Path: of("/l"), Owner: -1}})
	for _, s := range all {
		spoil(s)
	}
	if a != "/a" || b != "/a/t00000" || leaf.Path != b || len(kids) != 1 || kids[0] != b {
		t.Errorf("%q, %q, %q, %q", a, b, leaf.Path, kids)
	}
	as(t, x, `/ "" v0 o-1 n0 b0`, `/a "set" v1 o-1 n1 b0`, `/a/t00000 "" v0 o1 n0 b0`)
	as(t, y, `/ "" v0 o-1 n0 b0`, `/l "" v0 o-1 n0 b0`)
	for _, z := range []*Tree{x, y} {
		for _, l := range z.All() {
			if leaf, e := z.Get(l.Path); words(leaf) != words(l) || e != api.OK {
				t.Errorf("%s, %d", words(leaf), e)
			}
		}
	}
}

// P10.5: no text is answered twice in one memory.
func TestTextsApart(t *testing.T) {
	x := with(t, "/a")
	seen := map[*byte]string{}
	apart := func(call string, texts ...string) {
		for _, s := range texts {
			at := unsafe.StringData(s)
			if other, there := seen[at]; there {
				t.Errorf("%s: %q stands where %s has its answer", call, s, other)
			}
			seen[at] = call
		}
	}
	b, _ := x.Make("/a/b", nil, 1, 0, false)
	c, _ := x.Make("/a/c", nil, 1, 0, true)
	apart("Make", b, c)
	for range 2 {
		leaf, _ := x.Get("/a/b")
		apart("Get", leaf.Path)
		kids, _ := x.Kids("/a")
		apart("Kids", kids...)
		apart("Owned", x.Owned(1, -1)...)
		for _, l := range x.All() {
			apart("All", l.Path)
		}
	}
}

// Rule 5: owners are as they were.
func TestOwnersMemory(t *testing.T) {
	list := []int{7, -1, 2, 7, 0, 99, 98}
	was := slices.Clone(list)
	crowd(t).Owned(list[:5]...)
	if !slices.Equal(list, was) {
		t.Error(list)
	}
}

// P10.5: what is answered is new memory: neither the tree nor another answer hangs on it, and it hangs on nothing that comes.
func TestAnswersMemory(t *testing.T) {
	x := with(t, "/q")
	made(t, x, node{"/q/a", []byte("data a"), 2, 1, false}, "/q/a")
	made(t, x, node{"/q/b", []byte("data b"), 2, 1, false}, "/q/b")
	was := held(x)
	leaf, _ := x.Get("/q/a")
	otherLeaf, _ := x.Get("/q/a")
	all, otherAll := x.All(), x.All()
	kids, _ := x.Kids("/q")
	otherKids, _ := x.Kids("/q")
	owned, otherOwned := x.Owned(2), x.Owned(2)
	_ = append(leaf.Data, "more and more"...)
	_ = append(all, api.Leaf{})
	_ = append(kids, "/more")
	_ = append(owned, "/more")
	spoil(leaf.Data)
	spoilNodes(all)
	spoilTexts(kids)
	spoilTexts(owned)
	unchanged(t, x, was)
	put(t, x, "/q/a", []byte("DATA A"), 0, 1, api.OK)
	dropped(t, x, "/q/b", 0, api.OK)
	made(t, x, node{"/q/0", nil, 2, 1, false}, "/q/0")
	if words(otherLeaf) != `/q/a "data a" v0 o2 n0 b1` || !slices.Equal(otherKids, []string{"/q/a", "/q/b"}) || !slices.Equal(otherOwned, []string{"/q/b", "/q/a"}) {
		t.Errorf("%s, %q, %q", words(otherLeaf), otherKids, otherOwned)
	}
	if listed(otherAll) != `/ "" v0 o-1 n0 b0; /q "" v0 o-1 n0 b0; /q/a "data a" v0 o2 n0 b1; /q/b "data b" v0 o2 n0 b1` {
		t.Error(listed(otherAll))
	}
}

// Rule 5: nothing stands in an answer's spare room, and no two lists of one answer share any.
func TestSpareRoom(t *testing.T) {
	b, _ := roomy("data")
	x := New()
	for i := range 31 {
		x.Make("/n", b[:i%5], i%2, 0, true)
		all, kids := x.All(), x.Owned(0, 1)
		more, _ := x.Kids("/")
		for _, l := range all[len(all):cap(all)] {
			if words(l) != words(api.Leaf{}) {
				t.Errorf("%d nodes: spare room %s", i, words(l))
			}
		}
		for _, list := range [][]string{kids, more} {
			for _, p := range list[len(list):cap(list)] {
				if p != "" {
					t.Errorf("%d nodes: spare room %q", i, p)
				}
			}
		}
		for _, l := range all {
			if room := l.Data[len(l.Data):cap(l.Data)]; bytes.ContainsAny(room, "datbehin") {
				t.Errorf("spare room %q", room)
			}
			spoil(l.Data)
		}
		for _, l := range all {
			// Each has been spoiled once, and none twice.
			spoil(l.Data)
			if want, _ := x.Get(l.Path); !bytes.Equal(l.Data, want.Data) {
				t.Errorf("%q, not %q", l.Data, want.Data)
			}
		}
	}
}

// Two trees have nothing in common, though one is loaded of the other.
func TestTreesApart(t *testing.T) {
	x := crowd(t)
	y := loaded(t, x.All()...)
	was := held(y)
	put(t, x, "/q", []byte("q"), -1, 1, api.OK)
	dropped(t, x, "/b", 0, api.OK)
	made(t, x, node{"/n", nil, 2, 2, true}, "/n00000")
	unchanged(t, y, was)
	as(t, New(), `/ "" v0 o-1 n0 b0`)
}

// Rule 1: nil data and empty ones are the same, and so are nil lists and empty ones.
func TestNilIsEmpty(t *testing.T) {
	x, y := New(), New()
	made(t, x, node{"/a", nil, -1, 0, false}, "/a")
	made(t, y, node{"/a", []byte{}, -1, 0, false}, "/a")
	put(t, x, "/", []byte{}, 0, 1, api.OK)
	put(t, y, "/", nil, 0, 1, api.OK)
	if held(x) != held(y) {
		t.Errorf("%s, and %s", held(x), held(y))
	}
	if x.Load(nil) || x.Load([]api.Leaf{}) {
		t.Error("Load")
	}
	if len(x.Owned(nil...)) != 0 || len(x.Owned([]int{}...)) != 0 {
		t.Error("Owned")
	}
}
