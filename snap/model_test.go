package snap

import (
	"bytes"
	"fmt"
	"math/rand"
	"slices"
	"testing"

	"stanchion/api"
	"stanchion/apply"
)

// anyOp: an operation, of a few paths.
func anyOp(r *rand.Rand) api.Op {
	paths := []string{"/", "/a", "/b", "/a/c", "/a/c/d", "/b/t-", "/e", "no"}
	p := paths[r.Intn(len(paths))]
	change := func() api.Op {
		switch r.Intn(4) {
		case 0, 1:
			return api.Op{Kind: api.OpMake, Path: p, Data: make([]byte, r.Intn(130)), Brief: r.Intn(3) == 0, Numbered: r.Intn(3) == 0}
		case 2:
			return api.Op{Kind: api.OpDrop, Path: p, Version: -1}
		}
		return api.Op{Kind: api.OpSet, Path: p, Data: []byte(p), Version: r.Intn(3) - 1}
	}
	switch r.Intn(10) {
	case 0, 1:
		return api.Op{Kind: api.OpOpen, Span: 1 + r.Intn(60)}
	case 2:
		return api.Op{Kind: api.OpClose}
	case 3:
		return api.Op{Kind: api.OpMulti, Ops: []api.Op{change(), change()}}
	case 4, 5:
		return api.Op{Kind: api.OpGet, Path: p, Watch: true}
	case 6:
		return api.Op{Kind: api.OpKids, Path: p, Watch: r.Intn(2) == 0}
	}
	return change()
}

// P14.1, P14.2: whatever a space has come to, it is back by its bytes, and goes on the same.
func TestModelSpaces(t *testing.T) {
	r := rand.New(rand.NewSource(14))
	var most [4]int
	for range 30 {
		s, u := apply.New(), apply.New()
		for i := range 150 {
			e := api.Entry{Client: r.Intn(8), Stamp: i + 1 - r.Intn(2), Time: i / 2}
			op, err := apply.Pack(anyOp(r))
			if err != api.OK {
				op = []byte("no operation")
			}
			x, now := s.Do(e, op)
			y, again := u.Do(e, op)
			if !bytes.Equal(x, y) || now != again {
				t.Fatalf("step %d: %q, %t; %q, %t", i, x, now, y, again)
			}
			b, err := Take(s)
			want, ok := otherBytes(s.Image())
			if !bytes.Equal(b, want) || !ok || err != api.OK {
				t.Fatalf("step %d: %.80q, %d; not %.80q", i, b, err, want)
			}
			m := s.Image()
			for k, n := range []int{len(m.Leaves), len(m.Watches), len(m.Events), len(m.Sessions)} {
				most[k] = max(most[k], n)
			}
			if i%10 == 0 {
				u, err = Back(b)
				if u == nil || err != api.OK || text(u.Image()) != text(s.Image()) {
					t.Fatalf("step %d: not back, %d", i, err)
				}
			}
		}
	}
	if slices.Min(most[:]) < 4 {
		t.Errorf("nodes, watches, events and sessions: at most %d", most)
	}
}

// anyImage: an image of numbers and texts most of which are right.
func anyImage(r *rand.Rand) api.Image {
	number := func(most int) int {
		if r.Intn(60) == 0 {
			return far[r.Intn(len(far))]
		}
		return r.Intn(most)
	}
	text := func() string {
		return []string{"/", "/a", "/a/b", "/b", "/c", "/c/d", "no", "/x"}[r.Intn(60)/8]
	}
	m := api.Image{Time: number(300), Count: number(300)}
	m.Leaves = append(m.Leaves, api.Leaf{Path: "/", Owner: -1, Version: number(200), Next: number(200), Data: make([]byte, r.Intn(5))})
	for _, p := range []string{"/a", "/a/b", "/b", "/c", "/c/d", "/c/d/e"} {
		if r.Intn(5) > 0 {
			m.Leaves = append(m.Leaves, api.Leaf{Path: p, Owner: max(number(3)-2, -1), Version: number(200), Next: number(200), Born: number(200)})
		}
	}
	for range r.Intn(4) {
		m.Watches = append(m.Watches, api.Watch{Client: number(8), Kind: 1 + number(2), Path: text()})
		m.Events = append(m.Events, api.Watch{Client: number(8), Kind: 1 + number(2), Path: text()})
		m.Sessions = append(m.Sessions, api.Session{Client: number(8), Span: 1 + number(300), Seen: number(300)})
		m.Replies = append(m.Replies, api.Reply{Client: number(8), Stamp: 1 + number(300), Data: make([]byte, number(300)&0x1ffff)})
	}
	slices.SortFunc(m.Watches, func(a, b api.Watch) int {
		return bytes.Compare([]byte(fmt.Sprint(a.Path, a.Kind, a.Client)), []byte(fmt.Sprint(b.Path, b.Kind, b.Client)))
	})
	slices.SortFunc(m.Events, func(a, b api.Watch) int { return a.Client - b.Client })
	slices.SortFunc(m.Sessions, func(a, b api.Session) int { return a.Client - b.Client })
	slices.SortFunc(m.Replies, func(a, b api.Reply) int { return a.Client - b.Client })
	return m
}

// P14.1: an image has its bytes, if a space can be it and its numbers and fields have bytes; else none.
func TestModelImages(t *testing.T) {
	r := rand.New(rand.NewSource(41))
	count := map[bool]int{}
	for i := range 4000 {
		m := anyImage(r)
		_, ok := otherBytes(m)
		right := ok && apply.New().Load(m)
		count[right]++
		either(t, fmt.Sprint("image ", i), m, right)
	}
	if count[true] < 300 || count[false] < 300 {
		t.Errorf("right and wrong: %v", count)
	}
}

// P14.1: bytes in which some are others, in any place, are an image's, or nothing.
func TestModelBytes(t *testing.T) {
	r := rand.New(rand.NewSource(7))
	count := map[bool]int{}
	for _, m := range []api.Image{little(), full()} {
		good, _ := otherBytes(m)
		for range 20_000 {
			b := bytes.Clone(good)
			for range 1 + r.Intn(3) {
				i := r.Intn(len(b))
				switch r.Intn(4) {
				case 0:
					b = slices.Insert(b, i, byte(r.Intn(256)))
				case 1:
					b = slices.Delete(b, i, i+1)
				case 2:
					b[i] += byte(r.Intn(3) - 1)
				case 3:
					b[i] = byte(r.Intn(256))
				}
			}
			count[whole(t, b)]++
		}
	}
	if count[true] < 300 || count[false] < 300 {
		t.Errorf("right and wrong: %v", count)
	}
}
