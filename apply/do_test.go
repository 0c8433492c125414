package apply

import (
	"fmt"
	"math"
	"strings"
	"testing"

	"stanchion/api"
)

// The chapter's example, P13.2.
func TestExample(t *testing.T) {
	w := begin(t, 1, 2)
	w.does(1, briefNode("/a"), toldPath("/a", 0))
	w.does(2, get("/a", true), api.Result{Leaf: api.Leaf{Path: "/a", Owner: 1, Born: 3}})
	w.does(1, shut(), told(api.OK))
	w.does(2, ping(), told(api.OK, onData(2, "/a")))
	w.does(2, ping(), told(api.OK))
}

// P13.2, step 1: the time is the greatest that was told, of which no more than 2^40 - 1 counts.
func TestTime(t *testing.T) {
	for _, first := range far {
		for _, second := range far {
			s := New()
			want := 0
			for i, n := range []int{first, second} {
				want = max(want, min(n, latest))
				s.Do(api.Entry{Client: -1 + 9*i, Stamp: n, Time: n}, nil)
				if got := s.Image().Time; got != want {
					t.Errorf("%d, %d: the time is %d, not %d", first, second, got, want)
				}
			}
		}
	}
}

// P13.2, step 1: the time goes on by what has no result too.
func TestTimeAlways(t *testing.T) {
	w := begin(t, 0, 1)
	w.does(0, ping(), told(api.OK))
	for i, e := range []api.Entry{{Client: -1}, {Client: 8, Stamp: 1}, {Client: 0, Stamp: 1}, {Client: 0, Stamp: 2}, {Client: 0}, {Client: 0, Stamp: -1}, {Client: 0, Stamp: latest + 1}, {Client: 0, Stamp: 9}} {
		e.Time = 10 + i
		w.s.Do(e, bytesOf(t, ping()))
		if m := w.s.Image(); m.Time != 10+i || len(m.Sessions) != 2 {
			t.Errorf("%+v: %+v", e, m)
		}
	}
	w.s.Do(api.Entry{Client: 0, Stamp: 3, Time: 200}, nil)
	if m := w.s.Image(); m.Time != 200 || len(m.Sessions) != 0 {
		t.Error(m)
	}
}

// P13.2, step 2: an entry of nobody has no result, and changes nothing but the time.
func TestNobody(t *testing.T) {
	w := begin(t, 0, 7)
	for _, n := range far {
		if n >= 0 && n <= 7 {
			continue
		}
		want := w.s.Image()
		for _, stamp := range []int{0, 1, 2, latest} {
			for _, o := range []api.Op{open(10), ping(), plainNode("/a")} {
				if b, now := w.s.Do(api.Entry{Client: n, Stamp: stamp}, bytesOf(t, o)); len(b) != 0 || now {
					t.Errorf("client %d: %q, %t", n, b, now)
				}
			}
		}
		is(t, w.s, want)
	}
}

// P13.2, step 2: stamps from 1 to 2^40 - 1 alone have results.
func TestStamps(t *testing.T) {
	for _, n := range far {
		for _, o := range []api.Op{open(10), ping()} {
			s := New()
			b, now := s.Do(api.Entry{Client: 3, Stamp: n}, bytesOf(t, o))
			if right := n >= 1 && n <= latest; now != right || (len(b) > 0) != right || len(s.Image().Replies) > 0 != right || s.Image().Count > 0 != right {
				t.Errorf("stamp %d: %q, %t", n, b, now)
			}
		}
	}
}

// P13.2, step 2: a stamp is done once: again, the last result is answered; one that is less has none.
func TestOnce(t *testing.T) {
	s := New()
	results := map[int]string{}
	for i, stamp := range []int{1, 2, 5, 1 << 30, latest - 1, latest} {
		b, now := s.Do(api.Entry{Client: 3, Stamp: stamp}, bytesOf(t, open(10)))
		x, e := ReadResult(b)
		if !now || e != api.OK || x.Count != i+1 || (x.Code == api.OK) != (i == 0) {
			t.Fatalf("%d: %q, %t", stamp, b, now)
		}
		results[stamp] = string(b)
		want := s.Image()
		for _, op := range [][]byte{bytesOf(t, open(10)), bytesOf(t, shut()), nil, []byte("junk")} {
			if b, now := s.Do(api.Entry{Client: 3, Stamp: stamp}, op); string(b) != results[stamp] || now {
				t.Errorf("%d again: %q, %t", stamp, b, now)
			}
			for _, less := range []int{math.MinInt, -1, 0, 1, stamp - 1} {
				if less == stamp {
					continue
				}
				if b, now := s.Do(api.Entry{Client: 3, Stamp: less}, op); len(b) != 0 || now {
					t.Errorf("%d behind %d: %q, %t", less, stamp, b, now)
				}
			}
		}
		is(t, s, want)
	}
	// Another client's stamps are its own.
	if _, now := s.Do(api.Entry{Client: 4, Stamp: 1}, nil); !now {
		t.Error("another client")
	}
}

// P13.2, step 2: what an operation comes to hangs on its bytes, not on the entry's digest; and the last result stays beyond its session.
func TestLastResult(t *testing.T) {
	w := begin(t, 5)
	b, now := w.s.Do(api.Entry{Client: 5, Stamp: 9, Digest: []byte("x")}, bytesOf(t, shut()))
	again, then := w.s.Do(api.Entry{Client: 5, Stamp: 9, Digest: []byte("y"), Time: 500}, nil)
	if !now || then || len(b) == 0 || string(again) != string(b) {
		t.Errorf("%q, %t, %q, %t", b, now, again, then)
	}
}

// P13.2, step 3: each operation that is done counts, one with an error and one of no right bytes too.
func TestCount(t *testing.T) {
	w := begin(t, 0)
	for i := range 30 {
		w.does(i%2, ping(), told([]api.Errno{api.OK, api.ErrSession}[i%2]))
		if x := w.raw(i%8, []byte("junk")); x.Count != w.count || x.Code != api.ErrOp {
			t.Error(x)
		}
		if n := w.s.Image().Count; n != w.count {
			t.Errorf("%d, not %d", n, w.count)
		}
	}
}

// P13.2, step 3: bytes of no right operation have ErrOp, who has a session or not, and are no sign.
func TestNoOp(t *testing.T) {
	w := begin(t, 0)
	w.time = 50
	long, _ := otherOp(plainNode(strings.Repeat("x", 2000)))
	wrong, _ := otherOp(api.Op{Kind: api.OpPing, Path: "/"})
	for _, op := range [][]byte{nil, {}, {0}, []byte("junk"), long, wrong, append(bytesOf(t, ping()), 0)} {
		for client := range 2 {
			want := told(api.ErrOp)
			x := w.raw(client, op)
			want.Count = w.count
			if text(x) != text(want) {
				t.Errorf("%.80q: %s", op, text(x))
			}
		}
	}
	if m := w.s.Image(); m.Sessions[0].Seen != 0 || len(m.Sessions) != 1 {
		t.Error(m.Sessions)
	}
	w.passes(100)
	if m := w.s.Image(); len(m.Sessions) != 0 {
		t.Error(m.Sessions)
	}
}

// P13.2, step 3: all but OpOpen need a session, whatever else is wrong with them.
func TestNeedsSession(t *testing.T) {
	w := begin(t, 0)
	want := w.s.Image()
	for _, o := range []api.Op{shut(), ping(), plainNode("/a"), plainNode("a"), drop("/"), set("/", "x"), get("/", true), get("/none", false), kids("/", true), kids("", true), multi(), multi(plainNode("/a"))} {
		w.does(1, o, told(api.ErrSession))
	}
	got := w.s.Image()
	want.Count, want.Replies = got.Count, got.Replies
	is(t, w.s, want)
}

// P13.2, step 3: a right operation of who has a session is a sign, one with an error too; OpOpen isn't.
func TestSigns(t *testing.T) {
	w := begin(t, 0, 1)
	for i, o := range []api.Op{ping(), plainNode("/a"), plainNode("a"), drop("/none"), set("/", "x"), get("/none", false), kids("", false), multi(), multi(drop("/")), open(5), open(0)} {
		w.passes(10 * (i + 1))
		was := w.s.Image().Sessions
		w.raw(0, bytesOf(t, o))
		w.raw(1, bytesOf(t, ping()))
		now := w.s.Image().Sessions
		if o.Kind != api.OpOpen {
			was[0].Seen = w.time
		}
		if was[1].Seen = w.time; text(now) != text(was) {
			t.Errorf("%s: %v, not %v", text(o), now, was)
		}
	}
}

// P13.2, step 3: OpOpen has the error that a session has.
func TestOpen(t *testing.T) {
	w := begin(t)
	w.passes(7)
	for _, span := range []int{0, 1_000_001, latest} {
		w.does(3, open(span), told(api.ErrSession))
	}
	w.does(3, open(1), told(api.OK))
	w.does(4, open(1_000_000), told(api.OK))
	w.does(3, open(2), told(api.ErrThere))
	w.does(3, open(0), told(api.ErrSession))
	if m := w.s.Image(); text(m.Sessions) != text([]api.Session{{Client: 3, Span: 1, Seen: 7}, {Client: 4, Span: 1_000_000, Seen: 7}}) {
		t.Error(m.Sessions)
	}
	w.time = 8
	w.does(3, ping(), told(api.ErrSession))
	w.does(3, open(5), told(api.OK))
	w.does(3, ping(), told(api.OK))
}

// P13.2, step 3: OpMake has Make's error, or the path; brief nodes are the client's.
func TestMake(t *testing.T) {
	w := begin(t, 6)
	w.does(6, plainNode("/q"), toldPath("/q", 0))
	w.does(6, numberedNode("/q/t-"), toldPath("/q/t-00000", 0))
	w.does(6, api.Op{Kind: api.OpMake, Path: "/q/t-", Data: []byte("data"), Numbered: true, Brief: true}, toldPath("/q/t-00001", 0))
	for _, x := range []struct {
		o    api.Op
		want api.Errno
	}{
		{plainNode(""), api.ErrPath}, {plainNode("/"), api.ErrPath}, {plainNode("q"), api.ErrPath}, {plainNode("/Q"), api.ErrPath}, {plainNode("/q/"), api.ErrPath},
		{plainNode("/q"), api.ErrThere}, {plainNode("/none/a"), api.ErrNone}, {plainNode("/q/t-00001/a"), api.ErrBrief},
		{api.Op{Kind: api.OpMake, Path: "/a", Data: make([]byte, 129)}, api.ErrQuota}, {numberedNode("/q/" + strings.Repeat("n", 12)), api.ErrPath},
	} {
		w.does(6, x.o, told(x.want))
	}
	w.does(6, get("/q", false), api.Result{Leaf: api.Leaf{Path: "/q", Owner: -1, Next: 2, Born: 2}})
	w.does(6, get("/q/t-00000", false), api.Result{Leaf: api.Leaf{Path: "/q/t-00000", Owner: -1, Born: 3}})
	w.does(6, get("/q/t-00001", false), api.Result{Leaf: api.Leaf{Path: "/q/t-00001", Data: []byte("data"), Owner: 6, Born: 4}})
	for i := range 28 {
		p := fmt.Sprintf("/n%d", i)
		w.does(6, plainNode(p), toldPath(p, 0))
	}
	w.does(6, plainNode("/more"), told(api.ErrQuota))
}

// P13.2, step 3: OpDrop has Drop's error, or tells nothing.
func TestDrop(t *testing.T) {
	w := begin(t, 0)
	w.does(0, plainNode("/a"), toldPath("/a", 0))
	w.does(0, plainNode("/a/b"), toldPath("/a/b", 0))
	w.does(0, set("/a/b", ""), toldPath("/a/b", 1))
	w.does(0, drop("/"), told(api.ErrPath))
	w.does(0, drop("a"), told(api.ErrPath))
	w.does(0, drop("/b"), told(api.ErrNone))
	w.does(0, drop("/a"), told(api.ErrKids))
	w.does(0, api.Op{Kind: api.OpDrop, Path: "/a/b", Version: 0}, told(api.ErrVersion))
	w.does(0, api.Op{Kind: api.OpDrop, Path: "/a/b", Version: 2}, told(api.ErrVersion))
	w.does(0, api.Op{Kind: api.OpDrop, Path: "/a/b", Version: 1}, told(api.OK))
	w.does(0, drop("/a/b"), told(api.ErrNone))
	w.does(0, drop("/a"), told(api.OK))
	w.leaves()
}

// P13.2, step 3: OpSet has Set's error, or the path and the version.
func TestSet(t *testing.T) {
	w := begin(t, 0)
	w.does(0, set("/", "root"), toldPath("/", 1))
	w.does(0, plainNode("/a"), toldPath("/a", 0))
	w.does(0, api.Op{Kind: api.OpSet, Path: "/a", Data: []byte("one")}, toldPath("/a", 1))
	w.does(0, api.Op{Kind: api.OpSet, Path: "/a", Data: []byte("two")}, told(api.ErrVersion))
	w.does(0, api.Op{Kind: api.OpSet, Path: "/a", Data: []byte("two"), Version: 1}, toldPath("/a", 2))
	w.does(0, set("/a", "three"), toldPath("/a", 3))
	w.does(0, set("/b", ""), told(api.ErrNone))
	w.does(0, set("", ""), told(api.ErrPath))
	w.does(0, set("/a", strings.Repeat("x", 129)), told(api.ErrQuota))
	w.does(0, get("/a", false), api.Result{Leaf: api.Leaf{Path: "/a", Data: []byte("three"), Version: 3, Owner: -1, Born: 3}})
	w.does(0, get("/", false), api.Result{Leaf: api.Leaf{Path: "/", Data: []byte("root"), Version: 1, Owner: -1}})
}

// P13.2, step 3: OpGet has the node, OpKids the children's paths; or an error.
func TestGetAndKids(t *testing.T) {
	w := begin(t, 0, 1)
	for _, p := range []string{"/b", "/a", "/b/z", "/b/y"} {
		w.does(0, plainNode(p), toldPath(p, 0))
	}
	for client := range 2 {
		w.does(client, kids("/", false), toldNames([]string{"/a", "/b"}))
		w.does(client, kids("/b", false), toldNames([]string{"/b/y", "/b/z"}))
		w.does(client, kids("/a", false), told(api.OK))
		w.does(client, kids("/c", false), told(api.ErrNone))
		w.does(client, kids("/c/", false), told(api.ErrPath))
		w.does(client, get("/c", false), told(api.ErrNone))
		w.does(client, get("", false), told(api.ErrPath))
		w.does(client, get("/b/z", false), api.Result{Leaf: api.Leaf{Path: "/b/z", Owner: -1, Born: 5}})
	}
	if m := w.s.Image(); len(m.Watches) != 0 {
		t.Error(m.Watches)
	}
}

// P13.2, step 3: OpPing tells nothing; OpClose ends the client.
func TestPingAndClose(t *testing.T) {
	w := begin(t, 0, 1)
	w.does(0, ping(), told(api.OK))
	w.does(0, shut(), told(api.OK))
	w.does(0, ping(), told(api.ErrSession))
	w.does(0, shut(), told(api.ErrSession))
	w.does(1, ping(), told(api.OK))
	w.does(0, open(3), told(api.OK))
	w.does(0, ping(), told(api.OK))
}

// P13.2, P13.1: where a number that was loaded is too great for a result, this has no bytes; it is done all the same, and once.
func TestResultTooGreat(t *testing.T) {
	for _, leaf := range []api.Leaf{{Version: most + 1}, {Version: math.MaxInt}, {Owner: most + 1}, {Next: most + 1}, {Born: math.MaxInt}} {
		leaf.Path = "/a"
		w := begin(t, 0)
		m := w.s.Image()
		m.Leaves = append(m.Leaves, leaf)
		if !w.s.Load(m) {
			t.Fatal(leaf)
		}
		e := api.Entry{Client: 0, Stamp: 2}
		if b, now := w.s.Do(e, bytesOf(t, get("/a", false))); len(b) != 0 || !now {
			t.Errorf("%q, %t", b, now)
		}
		if b, now := w.s.Do(e, bytesOf(t, drop("/a"))); len(b) != 0 || now {
			t.Errorf("again: %q, %t", b, now)
		}
		m.Count, m.Replies = 2, []api.Reply{{Client: 0, Stamp: 2}}
		is(t, w.s, m)
		w.stamps[0], w.count = 2, 2
		w.does(0, drop("/a"), told(api.OK))
	}
}
