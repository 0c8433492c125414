package snap

import (
	"bytes"
	"fmt"
	"testing"

	"stanchion/api"
	"stanchion/apply"
	"stanchion/sha"
)

// does: a client's operation is done.
func does(t *testing.T, s *apply.Space, e api.Entry, o api.Op) []byte {
	t.Helper()
	op, err := apply.Pack(o)
	if err != api.OK {
		t.Fatalf("%s isn't right", text(o))
	}
	b, _ := s.Do(e, op)
	return b
}

// busy: a space that has come to some of all.
func busy(t *testing.T) *apply.Space {
	t.Helper()
	s := apply.New()
	for i, x := range []struct {
		client int
		o      api.Op
	}{
		{4, api.Op{Kind: api.OpOpen, Span: 50}},
		{1, api.Op{Kind: api.OpOpen, Span: 60}},
		{1, api.Op{Kind: api.OpMake, Path: "/q"}},
		{4, api.Op{Kind: api.OpMake, Path: "/q/b", Brief: true, Data: []byte("b")}},
		{4, api.Op{Kind: api.OpGet, Path: "/q", Watch: true}},
		{4, api.Op{Kind: api.OpKids, Path: "/q", Watch: true}},
		{1, api.Op{Kind: api.OpKids, Path: "/", Watch: true}},
		{1, api.Op{Kind: api.OpSet, Path: "/q", Data: []byte("data"), Version: 0}},
		{1, api.Op{Kind: api.OpMake, Path: "/q/t-", Numbered: true}},
		{7, api.Op{Kind: api.OpPing}},
	} {
		does(t, s, api.Entry{Client: x.client, Stamp: i + 1, Time: i}, x.o)
	}
	return s
}

// P14.2: a space's bytes, and the space of these.
func TestTakeBack(t *testing.T) {
	s := busy(t)
	m := s.Image()
	if len(m.Leaves) != 4 || len(m.Watches) != 1 || len(m.Events) != 2 || len(m.Sessions) != 2 || len(m.Replies) != 3 {
		t.Fatalf("not busy: %s", text(m))
	}
	taken(t, "busy", m)
	b, e := Take(s)
	want, _ := otherBytes(m)
	if !bytes.Equal(b, want) || e != api.OK {
		t.Errorf("%q, %d", b, e)
	}
	if text(s.Image()) != text(m) {
		t.Error("the space is another")
	}
}

// P14.2: what comes behind comes to the same in the space that is back, and there only.
func TestBackGoesOn(t *testing.T) {
	s := busy(t)
	b, _ := Take(s)
	u, _ := Back(b)
	v, _ := Back(b)
	for i, o := range []api.Op{
		{Kind: api.OpGet, Path: "/q/b"},
		{Kind: api.OpDrop, Path: "/q/b", Version: -1},
		{Kind: api.OpMake, Path: "/q/t-", Numbered: true},
		{Kind: api.OpKids, Path: "/q"},
		{Kind: api.OpMake, Path: "/new"},
		{Kind: api.OpPing},
	} {
		client := []int{1, 4}[i%2]
		e := api.Entry{Client: client, Stamp: 20 + i, Time: 20 + i}
		one, other := does(t, s, e, o), does(t, u, e, o)
		if !bytes.Equal(one, other) || len(one) == 0 {
			t.Errorf("%s: %q, %q", text(o), one, other)
		}
		x, _ := Take(s)
		y, _ := Take(u)
		if !bytes.Equal(x, y) || bytes.Equal(x, b) {
			t.Errorf("behind %s the spaces are others", text(o))
		}
	}
	if c, e := Take(v); !bytes.Equal(c, b) || e != api.OK {
		t.Error("a third space is another")
	}
}

// P14.2: a last result is answered again by the space that is back.
func TestBackReplies(t *testing.T) {
	b, _ := Take(busy(t))
	s, _ := Back(b)
	want := s.Image().Replies
	for _, r := range want {
		got, now := s.Do(api.Entry{Client: r.Client, Stamp: r.Stamp}, nil)
		if !bytes.Equal(got, r.Data) || now || len(got) == 0 {
			t.Errorf("client %d: %q, %t", r.Client, got, now)
		}
	}
}

// P14.2: a space whose image has no bytes, or can be no space's.
func TestTakeNothing(t *testing.T) {
	late := full()
	late.Count = latest
	worn := full()
	worn.Leaves[0].Version = greatest
	for i, m := range []api.Image{late, worn} {
		s := loaded(t, m)
		if _, e := Take(s); e != api.OK {
			t.Errorf("%d: ahead of it: %d", i, e)
		}
		does(t, s, api.Entry{Client: 0, Stamp: 2}, api.Op{Kind: api.OpSet, Path: "/", Version: -1})
		if i == 1 {
			does(t, s, api.Entry{Client: 3, Stamp: 1}, api.Op{Kind: api.OpOpen, Span: 5})
			does(t, s, api.Entry{Client: 3, Stamp: 2}, api.Op{Kind: api.OpSet, Path: "/", Version: -1})
		}
		if b, e := Take(s); len(b) != 0 || e != api.ErrSnap {
			t.Errorf("%d: %.80q, %d", i, b, e)
		}
		unpacked(t, fmt.Sprint(i), s.Image())
	}
}

// P1: no space at all.
func TestTakeNoSpace(t *testing.T) {
	for _, s := range []*apply.Space{nil, {}} {
		if b, e := Take(s); len(b) != 0 || e != api.ErrSnap {
			t.Errorf("%q, %d", b, e)
		}
	}
}

// P14.2: the digest is the sum of all the bytes, whatever they are.
func TestDigest(t *testing.T) {
	b, _ := Pack(full())
	for _, b := range [][]byte{nil, {}, []byte("abc"), b, b[1:], make([]byte, 100_000)} {
		if d := Digest(b); !bytes.Equal(d, sha.Sum(b)) || len(d) != 32 {
			t.Errorf("%.80q: %x", b, d)
		}
	}
	if d := sha.Hex(Digest([]byte("abc"))); d != "ba7816bf8f01cfea414140de5dae2223b00361a396177a9cb410ff61f20015ad" {
		t.Errorf("of abc: %s", d)
	}
	if sha.Hex(Digest(nil)) != "e3b0c44298fc1c149afbf4c8996fb92427ae41e4649b934ca495991b7852b855" {
		t.Error("of no bytes")
	}
}
