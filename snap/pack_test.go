package snap

import (
	"bytes"
	"fmt"
	"testing"

	"stanchion/api"
	"stanchion/apply"
)

// P14.1: the bytes, written out: of an empty space the root alone, with Owner + 1 = 0.
func TestBytesEmpty(t *testing.T) {
	want := "\x02\x00\x00" + "\x09\x08\x01/\x00\x04\x00\x00\x00\x00" + "\x00" + "\x00" + "\x00" + "\x00"
	if b, e := Pack(empty()); string(b) != want || e != api.OK {
		t.Errorf("%q, %d; not %q", b, e, want)
	}
	if b, e := Take(apply.New()); string(b) != want || e != api.OK {
		t.Errorf("%q, %d; not %q", b, e, want)
	}
	s, e := Back([]byte(want))
	if e != api.OK || text(s.Image()) != text(empty()) {
		t.Errorf("back: %d", e)
	}
	taken(t, "empty", empty())
}

// P14.1: the bytes, written out: of one of each.
func TestBytesLittle(t *testing.T) {
	want := "\x02\x01\x02" +
		"\x14\x08\x01/\x00\x04\x00\x00\x00\x00\x0a\x02/a\x01d\x04\x03\x02\x04\x02" +
		"\x06\x05\x02\x01\x01\x01/" +
		"\x07\x06\x02\x02\x02\x02/a" +
		"\x03\x01\x05\x01" +
		"\x06\x05\x02\x03\x06\x01r"
	if b, e := Pack(little()); string(b) != want || e != api.OK {
		t.Errorf("%q, %d; not %q", b, e, want)
	}
	if m, e := Read([]byte(want)); text(m) != text(little()) || e != api.OK {
		t.Errorf("%s, %d", text(m), e)
	}
	taken(t, "little", little())
}

// P14.1: of all kinds of things, and with none of each.
func TestBytesFull(t *testing.T) {
	taken(t, "full", full())
	for i, change := range []func(*api.Image){
		func(m *api.Image) { m.Time, m.Count = 0, 0 },
		func(m *api.Image) { m.Leaves = m.Leaves[:1] },
		func(m *api.Image) { m.Watches = nil },
		func(m *api.Image) { m.Events = nil },
		func(m *api.Image) { m.Sessions = nil },
		func(m *api.Image) { m.Replies = nil },
	} {
		m := full()
		change(&m)
		taken(t, fmt.Sprint("none ", i), m)
	}
}

// P14.1: an empty image, without even a root, is none.
func TestNone(t *testing.T) {
	refused(t, "none", api.Image{})
	nothing(t, "nil", nil)
	nothing(t, "no bytes", []byte{})
	nothing(t, "junk", []byte("junk"))
	nothing(t, "six empty fields", make([]byte, 6))
}

// P14.1: each number, from one end to the other.
func TestNumbers(t *testing.T) {
	for _, x := range []struct {
		name  string
		field func(*api.Image) *int
		least int
		most  int
	}{
		{"Time", func(m *api.Image) *int { return &m.Time }, 0, latest},
		{"Count", func(m *api.Image) *int { return &m.Count }, 0, latest},
		{"Version", func(m *api.Image) *int { return &m.Leaves[1].Version }, 0, greatest},
		{"Owner", func(m *api.Image) *int { return &m.Leaves[1].Owner }, -1, greatest - 1},
		{"Next", func(m *api.Image) *int { return &m.Leaves[1].Next }, 0, greatest},
		{"Born", func(m *api.Image) *int { return &m.Leaves[1].Born }, 0, greatest},
		{"the root's Version", func(m *api.Image) *int { return &m.Leaves[0].Version }, 0, greatest},
		{"the root's Owner", func(m *api.Image) *int { return &m.Leaves[0].Owner }, -1, -1},
		{"the root's Next", func(m *api.Image) *int { return &m.Leaves[0].Next }, 0, greatest},
		{"the root's Born", func(m *api.Image) *int { return &m.Leaves[0].Born }, 0, 0},
		{"a watch's Client", func(m *api.Image) *int { return &m.Watches[0].Client }, 0, 7},
		{"a watch's Kind", func(m *api.Image) *int { return &m.Watches[0].Kind }, 1, 2},
		{"an event's Client", func(m *api.Image) *int { return &m.Events[0].Client }, 0, 7},
		{"an event's Kind", func(m *api.Image) *int { return &m.Events[0].Kind }, 1, 2},
		{"a session's Client", func(m *api.Image) *int { return &m.Sessions[0].Client }, 0, 7},
		{"a session's Span", func(m *api.Image) *int { return &m.Sessions[0].Span }, 1, 1_000_000},
		{"a session's Seen", func(m *api.Image) *int { return &m.Sessions[0].Seen }, 0, latest},
		{"a reply's Client", func(m *api.Image) *int { return &m.Replies[0].Client }, 0, 7},
		{"a reply's Stamp", func(m *api.Image) *int { return &m.Replies[0].Stamp }, 1, latest},
	} {
		for _, n := range far {
			m := little()
			*x.field(&m) = n
			either(t, fmt.Sprint(x.name, " ", n), m, n >= x.least && n <= x.most)
		}
	}
}

// P14.1: a number that a space may have, but that has no bytes.
func TestNumbersTooGreat(t *testing.T) {
	for i, change := range []func(*api.Image){
		func(m *api.Image) { m.Leaves[1].Version = greatest + 1 },
		func(m *api.Image) { m.Leaves[1].Owner = greatest },
		func(m *api.Image) { m.Leaves[1].Owner = 1<<63 - 1 },
		func(m *api.Image) { m.Leaves[1].Next = greatest + 1 },
		func(m *api.Image) { m.Leaves[1].Born = 1<<63 - 1 },
	} {
		m := little()
		change(&m)
		loaded(t, m)
		refused(t, fmt.Sprint("change ", i), m)
	}
}

// P14.1: what no space can be.
func TestNoSpace(t *testing.T) {
	for i, change := range []func(*api.Image){
		func(m *api.Image) { m.Leaves = nil },
		func(m *api.Image) { m.Leaves = m.Leaves[1:] },
		func(m *api.Image) { m.Leaves = append(m.Leaves, m.Leaves[3]) },
		func(m *api.Image) { m.Leaves[1], m.Leaves[2] = m.Leaves[2], m.Leaves[1] },
		func(m *api.Image) { m.Leaves[2].Owner = 1 },
		func(m *api.Image) { m.Leaves[2].Path = "/B" },
		func(m *api.Image) { m.Leaves[1].Path = "" },
		func(m *api.Image) { m.Leaves[3].Data = make([]byte, 129) },
		func(m *api.Image) { m.Watches[0], m.Watches[1] = m.Watches[1], m.Watches[0] },
		func(m *api.Image) { m.Watches[0] = m.Watches[1] },
		func(m *api.Image) { m.Watches[3].Path = "b" },
		func(m *api.Image) { m.Events[0].Path = "x/" },
		func(m *api.Image) { m.Events[0].Client = 4 },
		func(m *api.Image) { m.Events[5].Client = 5 },
		func(m *api.Image) { m.Sessions[1].Client = 0 },
		func(m *api.Image) { m.Sessions[0], m.Sessions[1] = m.Sessions[1], m.Sessions[0] },
		func(m *api.Image) { m.Replies[1].Client = 0 },
		func(m *api.Image) { m.Replies[0], m.Replies[2] = m.Replies[2], m.Replies[0] },
		func(m *api.Image) { m.Replies[0].Data = make([]byte, api.MaxField+1) },
	} {
		m := full()
		change(&m)
		if text(m) == text(full()) || apply.New().Load(m) {
			t.Errorf("a space can be the change %d", i)
		}
		refused(t, fmt.Sprint("change ", i), m)
	}
}

// P14.1: as many of each as there may be, and one more.
func TestMany(t *testing.T) {
	for _, n := range []int{31, 32, 33, 1024, 1025} {
		m := empty()
		for i := 1; i < n; i++ {
			m.Leaves = append(m.Leaves, api.Leaf{Path: fmt.Sprintf("/%04d", i), Owner: i - 2, Data: bytes.Repeat([]byte{byte(i)}, 128)})
		}
		either(t, fmt.Sprint(n, " nodes"), m, n <= 32)
	}
	for _, n := range []int{7, 8, 9, 1024, 1025} {
		m := full()
		m.Watches, m.Events, m.Sessions, m.Replies = nil, nil, nil, nil
		events, sessions, replies := m, m, m
		for i := range n {
			m.Watches = append(m.Watches, onData(3, fmt.Sprintf("/%04d", i)))
			events.Events = append(events.Events, onKids(3, "/e"))
			sessions.Sessions = append(sessions.Sessions, api.Session{Client: i, Span: 300, Seen: 200})
			replies.Replies = append(replies.Replies, api.Reply{Client: i, Stamp: 1000, Data: []byte{0}})
		}
		either(t, fmt.Sprint(n, " watches"), m, n <= 8)
		either(t, fmt.Sprint(n, " events"), events, n <= 8)
		either(t, fmt.Sprint(n, " sessions"), sessions, n <= 8)
		either(t, fmt.Sprint(n, " replies"), replies, n <= 8)
	}
	// Of all clients together: 64 watches and events.
	m := empty()
	for client := range 8 {
		for i := range 4 {
			m.Events = append(m.Events, onData(client, fmt.Sprintf("/%d", i)))
		}
	}
	for i := range 4 {
		for client := range 8 {
			m.Watches = append(m.Watches, onData(client, fmt.Sprintf("/%d", i)))
		}
	}
	taken(t, "all clients'", m)
	m.Events = append(m.Events, onData(7, "/9"))
	refused(t, "one more", m)
}

// with: an image with replies of so many bytes each.
func with(stamp int, sizes ...int) api.Image {
	m := little()
	m.Replies = nil
	for i, n := range sizes {
		m.Replies = append(m.Replies, api.Reply{Client: i, Stamp: stamp, Data: bytes.Repeat([]byte("r"), n)})
	}
	return m
}

// P14.1: pack.Join has an error, if a field has more than 65,536 bytes: a reply as a field, or all of them together.
func TestLong(t *testing.T) {
	// A short stamp: 3 bytes of numbers, 3 of the size of Data, 3 of the reply's.
	const most = api.MaxField - 9
	for _, n := range []int{most - 1, most} {
		taken(t, fmt.Sprint("one of ", n), with(1, n))
		taken(t, fmt.Sprint("a long stamp, one of ", n), with(latest, n-5))
		taken(t, fmt.Sprint("two of ", n), with(1, n-4-30_000, 30_000-5))
	}
	for _, n := range []int{most + 1, most + 2, most + 3, most + 4, api.MaxField - 1, api.MaxField} {
		refused(t, fmt.Sprint("one of ", n), with(1, n))
		refused(t, fmt.Sprint("two of ", n), with(1, n-4-30_000, 30_000-5))
		refused(t, fmt.Sprint("eight of ", n), with(1, n, n, n, n, n, n, n, n))
		loaded(t, with(1, n, n, n, n, n, n, n, n))
	}
	refused(t, "a long stamp", with(latest, most-4))
	refused(t, "no space", with(1, api.MaxField+1))
	taken(t, "eight", with(1, 8000, 8000, 8000, 8000, 8000, 8000, 8000, 8000))
}
