package apply

import (
	"bytes"
	"fmt"
	"maps"
	"math/rand"
	"regexp"
	"slices"
	"strings"
	"testing"

	"stanchion/api"
)

// model is a space by the words of the chapters, of this one and of those below.
type model struct {
	time, count int
	nodes       map[string]api.Leaf
	watches     []api.Watch
	sessions    map[int]api.Session
	events      [8][]api.Watch
	replies     map[int]api.Reply
	fires       []api.Watch // what has still to be fired: no clients in it
}

func newModel() *model {
	return &model{nodes: map[string]api.Leaf{"/": {Path: "/", Owner: -1}}, sessions: map[int]api.Session{}, replies: map[int]api.Reply{}}
}

var (
	pathForm = regexp.MustCompile(`\A(/|(/[0-9_a-z-]{1,16})+)\z`)
	nodeForm = regexp.MustCompile(`\A(/[0-9_a-z-]{1,16})+\z`)
)

func isPath(p string) bool { return len(p) <= 64 && pathForm.MatchString(p) }
func isNode(p string) bool { return len(p) <= 64 && nodeForm.MatchString(p) }

// above: the parent's path.
func above(p string) string { return p[:max(strings.LastIndexByte(p, '/'), 1)] }

// below: the children's paths, rising.
func (m *model) below(p string) []string {
	var list []string
	for q := range m.nodes {
		if q != "/" && above(q) == p {
			list = append(list, q)
		}
	}
	slices.Sort(list)
	return list
}

// change: what happens to the tree by an operation of one of three kinds: its error, the path and the version.
func (m *model) change(client int, o api.Op) (api.Errno, string, int) {
	node, there := m.nodes[o.Path]
	switch o.Kind {
	case 3: // make
		if !isNode(o.Path) {
			return 90, "", 0
		}
		if len(o.Data) > 128 {
			return 104, "", 0
		}
		parent, found := m.nodes[above(o.Path)]
		if !found {
			return 100, "", 0
		}
		if parent.Owner != -1 {
			return 105, "", 0
		}
		p := o.Path
		if o.Numbered {
			p = fmt.Sprintf("%s%05d", p, parent.Next)
			if parent.Next > 99999 || !isPath(p) {
				return 90, "", 0
			}
		}
		if _, there := m.nodes[p]; there {
			return 101, "", 0
		}
		if len(m.nodes) == 32 {
			return 104, "", 0
		}
		if o.Numbered {
			parent.Next++
			m.nodes[parent.Path] = parent
		}
		owner := -1
		if o.Brief {
			owner = client
		}
		m.nodes[p] = api.Leaf{Path: p, Data: o.Data, Owner: owner, Born: m.count}
		m.fires = append(m.fires, api.Watch{Kind: 1, Path: p}, api.Watch{Kind: 2, Path: above(p)})
		return 0, p, 0
	case 4: // drop
		if !isNode(o.Path) {
			return 90, "", 0
		}
		if !there {
			return 100, "", 0
		}
		if o.Version >= 0 && o.Version != node.Version {
			return 102, "", 0
		}
		if len(m.below(o.Path)) > 0 {
			return 103, "", 0
		}
		delete(m.nodes, o.Path)
		m.fires = append(m.fires, api.Watch{Kind: 1, Path: o.Path}, api.Watch{Kind: 2, Path: above(o.Path)})
		return 0, "", 0
	}
	if !isPath(o.Path) {
		return 90, "", 0
	}
	if !there {
		return 100, "", 0
	}
	if o.Version >= 0 && o.Version != node.Version {
		return 102, "", 0
	}
	if len(o.Data) > 128 {
		return 104, "", 0
	}
	node.Data, node.Version = o.Data, node.Version+1
	m.nodes[o.Path] = node
	m.fires = append(m.fires, api.Watch{Kind: 1, Path: o.Path})
	return 0, o.Path, node.Version
}

// fire: all that has to be fired; nothing has any more.
func (m *model) fire() {
	for _, f := range m.fires {
		for client := range 8 {
			f.Client = client
			if at := slices.Index(m.watches, f); at >= 0 {
				m.watches = slices.Delete(m.watches, at, at+1)
				m.events[client] = append(m.events[client], f)
			}
		}
	}
	m.fires = nil
}

// end: a client ends.
func (m *model) end(client int) {
	m.watches = slices.DeleteFunc(m.watches, func(w api.Watch) bool { return w.Client == client })
	m.events[client] = nil
	delete(m.sessions, client)
	paths := slices.Sorted(maps.Keys(m.nodes))
	for i := range paths {
		if p := paths[len(paths)-1-i]; m.nodes[p].Owner == client {
			m.change(client, api.Op{Kind: 4, Path: p, Version: -1})
			m.fire()
		}
	}
}

// watch: a watch is asked for.
func (m *model) watch(w api.Watch) api.Errno {
	if slices.Contains(m.watches, w) {
		return 0
	}
	n := len(m.events[w.Client])
	for _, v := range m.watches {
		if v.Client == w.Client {
			n++
		}
	}
	if n >= 8 {
		return 104
	}
	if !isPath(w.Path) {
		return 90
	}
	m.watches = append(m.watches, w)
	return 0
}

// several: what OpMulti comes to.
func (m *model) several(client int, list []api.Op, x *api.Result) {
	was := maps.Clone(m.nodes)
	for i, o := range list {
		e, p, _ := m.change(client, o)
		if e != 0 {
			m.nodes, m.fires = was, nil
			x.Code, x.At, x.Names = e, i, nil
			return
		}
		if o.Kind != 3 {
			p = ""
		}
		x.Names = append(x.Names, p)
	}
	m.fire()
}

// perform: the third step, of a right operation or none.
func (m *model) perform(client int, o api.Op, right bool, x *api.Result) {
	s, live := m.sessions[client]
	switch {
	case !right:
		x.Code = 130
		return
	case o.Kind == 1 && (o.Span < 1 || o.Span > 1000000):
		x.Code = 120
		return
	case o.Kind == 1 && live:
		x.Code = 101
		return
	case o.Kind == 1:
		m.sessions[client] = api.Session{Client: client, Span: o.Span, Seen: m.time}
		return
	case !live:
		x.Code = 120
		return
	}
	s.Seen = max(s.Seen, m.time)
	m.sessions[client] = s
	switch o.Kind {
	case 2:
		m.end(client)
	case 3, 4, 5:
		x.Code, x.Leaf.Path, x.Leaf.Version = m.change(client, o)
		m.fire()
	case 6, 7:
		if o.Watch {
			x.Code = m.watch(api.Watch{Client: client, Kind: o.Kind - 5, Path: o.Path})
		}
		node, there := m.nodes[o.Path]
		switch {
		case x.Code != 0:
		case !isPath(o.Path):
			x.Code = 90
		case !there:
			x.Code = 100
		case o.Kind == 6:
			x.Leaf = node
		default:
			x.Names = m.below(o.Path)
		}
	case 8:
		m.several(client, o.Ops, x)
	}
}

// do: what Do tells; the operation, and whether its bytes are right.
func (m *model) do(e api.Entry, o api.Op, right bool) ([]byte, bool) {
	m.time = max(m.time, min(e.Time, 1099511627775))
	var over []int
	for client := range 8 {
		if s, live := m.sessions[client]; live && s.Seen+s.Span <= m.time {
			over = append(over, client)
		}
	}
	for _, client := range over {
		m.end(client)
	}
	if e.Client < 0 || e.Client > 7 || e.Stamp < 1 || e.Stamp > 1099511627775 {
		return nil, false
	}
	last := m.replies[e.Client]
	if e.Stamp < last.Stamp {
		return nil, false
	}
	if e.Stamp == last.Stamp {
		return last.Data, false
	}
	m.count++
	x := api.Result{Count: m.count, Leaf: api.Leaf{Owner: -1}}
	m.perform(e.Client, o, right, &x)
	if _, live := m.sessions[e.Client]; live {
		x.Events = m.events[e.Client]
	}
	m.events[e.Client] = nil
	b, _ := otherResult(x)
	m.replies[e.Client] = api.Reply{Client: e.Client, Stamp: e.Stamp, Data: b}
	return b, true
}

// image: what Image tells.
func (m *model) image() api.Image {
	i := api.Image{Time: m.time, Count: m.count, Watches: slices.Clone(m.watches)}
	for _, p := range slices.Sorted(maps.Keys(m.nodes)) {
		i.Leaves = append(i.Leaves, m.nodes[p])
	}
	slices.SortFunc(i.Watches, func(a, b api.Watch) int {
		if a.Path != b.Path {
			return strings.Compare(a.Path, b.Path)
		}
		return 8*(a.Kind-b.Kind) + a.Client - b.Client
	})
	for client := range 8 {
		i.Events = append(i.Events, m.events[client]...)
		if s, live := m.sessions[client]; live {
			i.Sessions = append(i.Sessions, s)
		}
		if r, there := m.replies[client]; there {
			i.Replies = append(i.Replies, r)
		}
	}
	return i
}

// pick: one of these.
func pick[T any](r *rand.Rand, list ...T) T { return list[r.Intn(len(list))] }

// somePath: one of a few paths, now and then of what is none.
func somePath(r *rand.Rand) string {
	if r.Intn(25) == 0 {
		return pick(r, "", "a", "/A", "/a/", "//", "/"+strings.Repeat("n", 16), "/"+strings.Repeat("n", 17))
	}
	p := "/" + pick(r, "a", "b", "c")
	switch r.Intn(6) {
	case 0:
		return "/"
	case 1, 2:
		return p + "/" + pick(r, "a", "t-", "t-00000", "t-00001")
	}
	return p
}

// someChange: an operation that changes the tree.
func someChange(r *rand.Rand) api.Op {
	p := somePath(r)
	data := pick(r, nil, []byte("x"), make([]byte, 128), make([]byte, 129))
	version := pick(r, -1, -1, -1, 0, 1, 2)
	switch r.Intn(5) {
	case 0:
		return api.Op{Kind: 4, Path: p, Version: version}
	case 1, 2:
		return api.Op{Kind: 5, Path: p, Data: data, Version: version}
	}
	return api.Op{Kind: 3, Path: p, Data: data, Brief: r.Intn(3) == 0, Numbered: r.Intn(4) == 0}
}

// someOp: any operation; one client mostly changes what the others mostly watch.
func someOp(r *rand.Rand, client int) api.Op {
	switch {
	case client == 0 && r.Intn(2) == 0:
		return someChange(r)
	case client > 0 && r.Intn(2) == 0:
		return pick(r, get(somePath(r), true), kids(somePath(r), true))
	}
	switch r.Intn(12) {
	case 0:
		return open(pick(r, 20, 40, 60, 60, 90, 90, 0, 1000001))
	case 1:
		if r.Intn(4) == 0 {
			return shut()
		}
		return ping()
	case 2, 3, 4:
		return get(somePath(r), r.Intn(4) > 0)
	case 5, 6:
		return kids(somePath(r), r.Intn(4) > 0)
	case 7, 8:
		var list []api.Op
		for range r.Intn(5) {
			list = append(list, someChange(r))
		}
		return multi(list...)
	}
	return someChange(r)
}

// someEntry: mostly a client's next.
func someEntry(r *rand.Rand, m *model, now int) api.Entry {
	client := pick(r, 0, 1, 2, r.Intn(8))
	if m.count%20 > 6 {
		// For some time what one does waits for the others.
		client = pick(r, 0, 0, 0, 0, 0, 0, r.Intn(8))
	}
	e := api.Entry{Client: client, Stamp: m.replies[client].Stamp + 1, Time: now}
	switch r.Intn(25) {
	case 0:
		e.Stamp--
	case 1:
		e.Stamp += r.Intn(5) - 2
	case 2:
		e.Client = pick(r, far...)
	case 3:
		e.Time = now - r.Intn(50)
	}
	return e
}

// P13.2, P13.3, P2: whatever is done, one after the other, comes to what the words tell, in a space that goes on, and in one that is loaded anew ahead of it.
func TestModel(t *testing.T) {
	counts := map[string]int{}
	for seed := range 60 {
		r := rand.New(rand.NewSource(int64(seed)))
		s, m, now := New(), newModel(), 0
		if seed == 7 {
			now = latest - 300
		}
		for range 500 {
			now += r.Intn(8) / 7 * r.Intn(12)
			e := someEntry(r, m, now)
			o := someOp(r, e.Client)
			if _, live := m.sessions[e.Client]; !live && r.Intn(2) == 0 {
				o = open(20 + r.Intn(100))
			}
			op, right := bytesOf(t, o), true
			if r.Intn(30) == 0 {
				op, right = append(op, 255), false
			}
			loaded := New()
			if !loaded.Load(s.Image()) {
				t.Fatalf("seed %d: not loaded: %s", seed, text(s.Image()))
			}
			want, done := m.do(e, o, right)
			got, now := s.Do(e, op)
			again, then := loaded.Do(e, op)
			if !bytes.Equal(got, want) || now != done || !bytes.Equal(again, want) || then != done {
				t.Fatalf("seed %d, %s: %q, %t, %q, %t, not %q, %t", seed, text(o), got, now, again, then, want, done)
			}
			if said := text(m.image()); text(s.Image()) != said || text(loaded.Image()) != said {
				t.Fatalf("seed %d, behind %s: %s, %s, not %s", seed, text(o), text(s.Image()), text(loaded.Image()), said)
			}
			x, _ := ReadResult(got)
			if !right {
				o.Kind = 0
			}
			counts[fmt.Sprint("done ", done, len(got) > 0)]++
			if done {
				counts[fmt.Sprint("kind ", o.Kind, " ", int(x.Code))]++
				counts[fmt.Sprint("events ", len(x.Events))]++
			}
		}
	}
	for _, what := range strings.Split("done true true,done false true,done false false,kind 0 130,kind 1 0,kind 1 101,kind 1 120,kind 2 0,"+
		"kind 3 0,kind 3 90,kind 3 100,kind 3 101,kind 3 104,kind 3 105,kind 4 0,kind 4 100,kind 4 102,kind 4 103,kind 5 0,kind 5 100,kind 5 102,kind 5 104,"+
		"kind 6 0,kind 6 90,kind 6 100,kind 6 104,kind 7 0,kind 7 100,kind 7 104,kind 8 0,kind 8 100,kind 8 101,kind 9 0,kind 9 120,events 1,events 2,events 3", ",") {
		if counts[what] < 20 {
			t.Errorf("%s: %d times", what, counts[what])
		}
	}
}
