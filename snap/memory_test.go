package snap

import (
	"bytes"
	"fmt"
	"slices"
	"testing"
	"unsafe"

	"stanchion/api"
)

// roomy: the bytes s, with other bytes behind their length in their memory; and all that memory.
func roomy(s []byte) (b, whole []byte) {
	whole = append(bytes.Clone(s), "behind the length"...)
	return whole[:len(s)], whole
}

// borrowed: a text that stands in the bytes that are answered with it.
func borrowed(s string) (string, []byte) {
	b := []byte(s)
	return unsafe.String(unsafe.SliceData(b), len(b)), b
}

// spoil: all that b's memory holds is another, spare room too.
func spoil(b []byte) {
	b = b[:cap(b)]
	for i := range b {
		b[i] ^= 0x55
	}
}

// datas: all lists of bytes in an image.
func datas(m *api.Image) []*[]byte {
	var list []*[]byte
	for i := range m.Leaves {
		list = append(list, &m.Leaves[i].Data)
	}
	for i := range m.Replies {
		list = append(list, &m.Replies[i].Data)
	}
	return list
}

// texts: all texts in an image.
func texts(m *api.Image) []*string {
	var list []*string
	for i := range m.Leaves {
		list = append(list, &m.Leaves[i].Path)
	}
	for i := range m.Watches {
		list = append(list, &m.Watches[i].Path)
	}
	for i := range m.Events {
		list = append(list, &m.Events[i].Path)
	}
	return list
}

// crowded: the image has others behind the length of each list, and its texts stand in memory of ours; all that memory, and an image that is all of it.
func crowded(m *api.Image) (memory [][]byte, room api.Image) {
	for _, data := range datas(m) {
		b, whole := roomy(*data)
		*data, memory = b, append(memory, whole)
	}
	for _, p := range texts(m) {
		s, whole := borrowed(*p)
		*p, memory = s, append(memory, whole)
	}
	room = api.Image{
		Leaves:   append(m.Leaves, api.Leaf{Path: "/z"}, api.Leaf{Version: -1}),
		Watches:  append(m.Watches, onData(9, "/z"), onData(7, "/z")),
		Sessions: append(m.Sessions, api.Session{Client: 7, Span: 1}, api.Session{Client: -1}),
		Events:   append(m.Events, onData(7, "/z"), onData(9, "/z")),
		Replies:  append(m.Replies, api.Reply{Client: 7, Stamp: 1}, api.Reply{Client: -1}),
	}
	m.Leaves, m.Watches, m.Sessions = room.Leaves[:len(m.Leaves)], room.Watches[:len(m.Watches)], room.Sessions[:len(m.Sessions)]
	m.Events, m.Replies = room.Events[:len(m.Events)], room.Replies[:len(m.Replies)]
	return memory, room
}

// crowd: images that a space can be, and such as none can.
func crowd() []api.Image {
	list := images()
	for _, m := range images() {
		m.Leaves[0].Born = 1
		list = append(list, m)
	}
	wrong := full()
	wrong.Replies[2].Stamp = 0
	worn := full()
	worn.Leaves[3].Next = greatest + 1
	return append(list, wrong, worn, with(1, 65536))
}

// P14.3: an image that is packed is as it was, what stands behind its lists too, and its bytes don't hang on it.
func TestPackMemory(t *testing.T) {
	for i, m := range crowd() {
		memory, room := crowded(&m)
		said := text(room) + text(m) + fmt.Sprint(memory)
		b, e := Pack(m)
		want := bytes.Clone(b)
		spoil(b)
		if text(room)+text(m)+fmt.Sprint(memory) != said {
			t.Errorf("image %d is changed", i)
		}
		b, again := Pack(m)
		for _, whole := range memory {
			spoil(whole)
		}
		if !bytes.Equal(b, want) || again != e {
			t.Errorf("the bytes of image %d hang on it", i)
		}
	}
}

// P14.3: bytes that are read are as they were, and what they are doesn't hang on them.
func TestReadMemory(t *testing.T) {
	for i, m := range crowd() {
		good, _ := otherBytes(m)
		b, memory := roomy(good)
		was := bytes.Clone(memory)
		x, e := Read(b)
		s, again := Back(b)
		if !bytes.Equal(memory, was) || e != again {
			t.Errorf("bytes %d are changed", i)
		}
		want := text(x)
		spoil(memory)
		if text(x) != want {
			t.Errorf("what bytes %d are hangs on them", i)
		}
		if s != nil && text(s.Image()) != want {
			t.Errorf("the space of bytes %d hangs on them", i)
		}
	}
}

// P14.3, rule 5: what is read is new memory: no two of its lists share any, spare room too, nor does it share any with another answer.
func TestReadApart(t *testing.T) {
	for _, m := range images() {
		b, memory := roomy(must(Pack(m)))
		was := bytes.Clone(memory)
		want, _ := Read(b)
		other, _ := Read(b)
		for i := range datas(&want) {
			got, _ := Read(b)
			list := datas(&got)[i]
			spoil(*list)
			_ = append(*list, "more and more and more"...)
			*list = *datas(&want)[i]
			if text(got) != text(want) || text(other) != text(want) {
				t.Errorf("others hang on list %d", i)
			}
		}
		for i, p := range texts(&want) {
			// The language keeps texts of one byte itself.
			if len(*p) < 2 {
				continue
			}
			if unsafe.StringData(*p) == unsafe.StringData(*texts(&other)[i]) {
				t.Errorf("text %d is another answer's", i)
			}
			for _, q := range texts(&want)[:i] {
				if unsafe.StringData(*p) == unsafe.StringData(*q) {
					t.Errorf("text %d is another's", i)
				}
			}
		}
		_ = append(want.Watches, onData(1, "/"), onData(2, "/"), onData(3, "/"))
		_ = append(want.Events, onKids(1, "/"), onKids(2, "/"), onKids(3, "/"))
		_ = append(want.Leaves, api.Leaf{}, api.Leaf{})
		if text(want) != text(m) || !bytes.Equal(memory, was) {
			t.Error("lists hang on one another, or the bytes on them")
		}
	}
}

// P14.3: a space that is taken is as it was, its bytes don't hang on it, nor it on them.
func TestTakeMemory(t *testing.T) {
	for _, m := range images() {
		s := loaded(t, m)
		b, _ := Take(s)
		want := bytes.Clone(b)
		spoil(b)
		if text(s.Image()) != text(m) {
			t.Error("the space hangs on its bytes")
		}
		b, _ = Take(s)
		s.Do(api.Entry{Client: 5, Stamp: 9, Time: latest}, nil)
		if !bytes.Equal(b, want) || text(s.Image()) == text(m) {
			t.Error("the bytes hang on their space")
		}
	}
}

// P14.3: two spaces of the same bytes have nothing in common.
func TestBackApart(t *testing.T) {
	b, _ := Pack(full())
	one, _ := Back(b)
	other, _ := Back(b)
	one.Do(api.Entry{Client: 0, Stamp: 9, Time: latest}, []byte("no operation"))
	if text(other.Image()) != text(full()) || text(one.Image()) == text(full()) {
		t.Error("two spaces hang on one another")
	}
}

// P14.3, rule 5: nothing stands in an answer's spare room.
func TestSpareRoom(t *testing.T) {
	for _, m := range images() {
		b := must(Pack(m))
		got := must(Read(b))
		taken, _ := Take(loaded(t, m))
		for i, list := range append(datas(&got), &b, &taken) {
			if room := (*list)[len(*list):cap(*list)]; len(bytes.Trim(room, "\x00")) != 0 {
				t.Errorf("list %d: %q", i, room)
			}
		}
		for _, l := range got.Leaves[len(got.Leaves):cap(got.Leaves)] {
			if text(l) != text(api.Leaf{}) {
				t.Error("a node in the spare room")
			}
		}
		for _, w := range slices.Concat(got.Watches[len(got.Watches):cap(got.Watches)], got.Events[len(got.Events):cap(got.Events)]) {
			if w != (api.Watch{}) {
				t.Error("a watch in the spare room")
			}
		}
	}
}

// P14.3: the digest is new memory, and the bytes are as they were.
func TestDigestMemory(t *testing.T) {
	for _, s := range []string{"", "abc", string(make([]byte, 32)), string(must(Pack(full())))} {
		b, memory := roomy([]byte(s))
		was := bytes.Clone(memory)
		d := Digest(b)
		want := bytes.Clone(d)
		spoil(d)
		if !bytes.Equal(memory, was) || !bytes.Equal(Digest(b), want) {
			t.Errorf("%.80q: the bytes are changed, or their digest", s)
		}
		d = Digest(b)
		spoil(memory)
		if !bytes.Equal(d, want) {
			t.Errorf("%.80q: the digest hangs on the bytes", s)
		}
	}
}

// Rule 1: a nil list and an empty one are the same.
func TestNilIsEmpty(t *testing.T) {
	m := empty()
	m.Leaves[0].Data = []byte{}
	m.Watches, m.Events, m.Sessions, m.Replies = []api.Watch{}, []api.Watch{}, []api.Session{}, []api.Reply{}
	taken(t, "empty lists", m)
	b, _ := Pack(m)
	want, _ := Pack(empty())
	if !bytes.Equal(b, want) {
		t.Error("other bytes")
	}
	m.Replies = []api.Reply{{Client: 1, Stamp: 1, Data: []byte{}}}
	other := empty()
	other.Replies = []api.Reply{{Client: 1, Stamp: 1}}
	b, _ = Pack(m)
	want, _ = Pack(other)
	if !bytes.Equal(b, want) {
		t.Error("other bytes of a reply without data")
	}
}

// P2: what is answered hangs on the arguments alone.
func TestAlike(t *testing.T) {
	for _, m := range crowd() {
		b, e := Pack(m)
		for range 3 {
			if again, f := Pack(m); !bytes.Equal(again, b) || f != e {
				t.Error("other bytes")
			}
			x, e := Read(b)
			y, f := Read(b)
			if text(x) != text(y) || e != f {
				t.Error("another image")
			}
		}
	}
}
