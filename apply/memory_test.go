package apply

import (
	"bytes"
	"slices"
	"testing"
	"unsafe"

	"stanchion/api"
)

// roomy: the bytes s, with other bytes behind their length in their memory; and all that memory.
func roomy(s []byte) (b, whole []byte) {
	whole = append(bytes.Clone(s), "behind the length"...)
	return whole[:len(s)], whole
}

// borrowed: a text that stands in the bytes that are answered with it.
func borrowed(s string) (string, []byte) {
	b := []byte(s)
	return unsafe.String(unsafe.SliceData(b), len(b)), b
}

// spoil: all that b's memory holds is another, spare room too.
func spoil(b []byte) {
	b = b[:cap(b)]
	for i := range b {
		b[i] ^= 0x55
	}
}

// datas: all lists of bytes in an operation.
func datas(o *api.Op) []*[]byte {
	list := []*[]byte{&o.Data}
	for i := range o.Ops {
		list = append(list, datas(&o.Ops[i])...)
	}
	return list
}

// P13.4: an operation that is packed is as it was, what stands behind its lists too, and its bytes don't hang on it.
func TestPackMemory(t *testing.T) {
	for _, o := range append(all(), api.Op{Kind: 77, Data: []byte("x")}, multi(ping())) {
		path, text0 := borrowed(o.Path)
		o.Path = path
		var wholes, were [][]byte
		for _, data := range datas(&o) {
			b, whole := roomy(*data)
			*data = b
			wholes, were = append(wholes, whole), append(were, bytes.Clone(whole))
		}
		room := append(o.Ops, api.Op{Kind: 99}, api.Op{Path: "behind"})
		o.Ops = room[:len(o.Ops)]
		said := text(room) + text(o)
		b, e := Pack(o)
		want := bytes.Clone(b)
		spoil(b)
		if text(room)+text(o) != said || !slices.EqualFunc(wholes, were, bytes.Equal) {
			t.Errorf("%s is changed", said)
		}
		b, again := Pack(o)
		for _, whole := range wholes {
			spoil(whole)
		}
		spoil(text0)
		if !bytes.Equal(b, want) || again != e {
			t.Errorf("the bytes of %s hang on it", said)
		}
	}
}

// P13.4: likewise of a result.
func TestPackResultMemory(t *testing.T) {
	for _, x := range append(some(), api.Result{Code: -1, Leaf: api.Leaf{Data: []byte("x")}}) {
		data, whole := roomy(x.Leaf.Data)
		path, text0 := borrowed(x.Leaf.Path)
		x.Leaf.Data, x.Leaf.Path = data, path
		names, events := append(x.Names, "behind", "it"), append(x.Events, onData(9, "behind"), onData(9, "it"))
		x.Names, x.Events = names[:len(x.Names)], events[:len(x.Events)]
		said := text(names) + text(events) + text(x) + string(whole)
		b, e := PackResult(x)
		want := bytes.Clone(b)
		spoil(b)
		if text(names)+text(events)+text(x)+string(whole) != said {
			t.Errorf("%s is changed", said)
		}
		b, again := PackResult(x)
		spoil(whole)
		spoil(text0)
		for i := range names {
			names[i] = "other"
		}
		for i := range events {
			events[i] = onKids(8, "other")
		}
		if !bytes.Equal(b, want) || again != e {
			t.Errorf("the bytes of %s hang on it", said)
		}
	}
}

// P13.4: bytes are as they were, and what was read doesn't hang on them; nor do its lists on one another.
func TestReadMemory(t *testing.T) {
	for _, o := range all() {
		s, _ := otherOp(o)
		for _, s := range [][]byte{s, s[1:]} {
			b, whole := roomy(s)
			was := bytes.Clone(whole)
			got, _ := Read(b)
			want := text(got)
			spoil(whole)
			if text(got) != want {
				t.Errorf("%s hangs on its bytes", want)
			}
			copy(whole, was)
			for i := range datas(&got) {
				got, _ := Read(b)
				fresh, _ := Read(b)
				data := datas(&got)[i]
				_ = append(*data, "more and more and more"...)
				spoil(*data)
				*data = *datas(&fresh)[i]
				_ = append(got.Ops, api.Op{}, api.Op{}, api.Op{})
				if text(got) != want || !bytes.Equal(whole, was) {
					t.Errorf("%s: others hang on data %d", want, i)
				}
			}
		}
	}
}

// P13.4: likewise of a result's.
func TestReadResultMemory(t *testing.T) {
	for _, x := range some() {
		s, _ := otherResult(x)
		for _, s := range [][]byte{s, s[1:]} {
			b, whole := roomy(s)
			was := bytes.Clone(whole)
			got, _ := ReadResult(b)
			want := text(got)
			if !bytes.Equal(whole, was) {
				t.Errorf("the bytes of %s are changed", want)
			}
			spoil(whole)
			if text(got) != want {
				t.Errorf("%s hangs on its bytes", want)
			}
			_ = append(got.Leaf.Data, "more and more and more"...)
			_ = append(got.Names, "more", "more")
			_ = append(got.Events, onData(9, "more"))
			if text(got) != want {
				t.Errorf("%s: lists hang on one another", want)
			}
		}
	}
}

// P13.4: what Do is told is as it was, and isn't kept; what it answers is new memory.
func TestDoMemory(t *testing.T) {
	w := begin(t, 0, 1)
	for i, o := range append(all(), ping(), open(100), set("/", "data"), plainNode("/m"), get("/", true), get("/gone", true), multi(plainNode("/a"), set("/a", "b")), kids("/", true)) {
		for client := range 2 {
			s, _ := otherOp(o)
			op, whole := roomy(s)
			digest, more := roomy([]byte("digest"))
			was := string(whole) + string(more)
			w.stamps[client]++
			e := api.Entry{Client: client, Stamp: w.stamps[client], Time: i, Digest: digest}
			b, now := w.s.Do(e, op)
			if !now || string(whole)+string(more) != was {
				t.Errorf("%s is changed", was)
			}
			want, said := w.s.Image(), string(b)
			spoil(whole)
			spoil(more)
			is(t, w.s, want)
			again, _ := w.s.Do(e, op)
			if string(again) != said || string(b) != said {
				t.Errorf("%s: %q, %q, not %q", was, b, again, said)
			}
			_ = append(b, "more and more"...)
			spoil(b)
			is(t, w.s, want)
			if string(again) != said {
				t.Errorf("%s: two answers share memory", was)
			}
			spoil(again)
			third, _ := w.s.Do(e, op)
			if string(third) != said {
				t.Errorf("%s: the last result is changed", was)
			}
			is(t, w.s, want)
		}
	}
}

// spoilImage: all that the image's lists hold is another, spare room too.
func spoilImage(m *api.Image) {
	for _, l := range m.Leaves {
		spoil(l.Data)
	}
	for _, r := range m.Replies {
		spoil(r.Data)
	}
	m.Leaves, m.Watches, m.Events = m.Leaves[:cap(m.Leaves)], m.Watches[:cap(m.Watches)], m.Events[:cap(m.Events)]
	m.Sessions, m.Replies = m.Sessions[:cap(m.Sessions)], m.Replies[:cap(m.Replies)]
	for i := range m.Leaves {
		m.Leaves[i] = api.Leaf{Path: "/spoiled", Data: []byte("spoiled"), Owner: 9}
	}
	for i := range m.Watches {
		m.Watches[i] = onData(6, "/spoiled")
	}
	for i := range m.Events {
		m.Events[i] = onKids(6, "/spoiled")
	}
	for i := range m.Sessions {
		m.Sessions[i] = api.Session{Client: 6, Span: 66, Seen: 666}
	}
	for i := range m.Replies {
		m.Replies[i] = api.Reply{Client: 6, Stamp: 66, Data: []byte("spoiled")}
	}
}

// P13.4: an image is new memory: the space doesn't hang on it, nor another image, nor it on what comes.
func TestImageMemory(t *testing.T) {
	s := busy(t)
	want := text(s.Image())
	m, other := s.Image(), s.Image()
	_ = append(m.Events, onData(6, "/more"))
	_ = append(m.Replies, api.Reply{Client: 6})
	spoilImage(&m)
	if text(s.Image()) != want || text(other) != want {
		t.Error("what is told hangs on an image")
	}
	s.Do(api.Entry{Client: 2, Stamp: 77, Time: 1000}, nil)
	s.Do(api.Entry{Client: 2, Stamp: 78}, bytesOf(t, open(5)))
	s.Do(api.Entry{Client: 2, Stamp: 79}, bytesOf(t, plainNode("/new")))
	s.Load(empty())
	if text(other) != want {
		t.Error("an image hangs on its space")
	}
}

// P13.4: an image that is loaded is as it was, what stands behind its lists too, and isn't kept.
func TestLoadMemory(t *testing.T) {
	for _, wrong := range []bool{false, true} {
		m := whole()
		if wrong {
			m.Replies[2].Client = 2
		}
		var wholes, were [][]byte
		for _, data := range []*[]byte{&m.Leaves[0].Data, &m.Leaves[3].Data, &m.Replies[1].Data, &m.Replies[2].Data} {
			b, all := roomy((*data)[:min(len(*data), 128)])
			*data = b
			wholes, were = append(wholes, all), append(were, bytes.Clone(all))
		}
		room := api.Image{
			Leaves:   append(m.Leaves, api.Leaf{Path: "behind"}),
			Watches:  append(m.Watches, onData(9, "behind")),
			Sessions: append(m.Sessions, api.Session{Client: 9}),
			Events:   append(m.Events, onData(9, "behind")),
			Replies:  append(m.Replies, api.Reply{Client: 9}),
		}
		m.Leaves, m.Watches, m.Sessions, m.Events, m.Replies = room.Leaves[:4], room.Watches[:4], room.Sessions[:2], room.Events[:6], room.Replies[:3]
		said, want := text(room)+text(m), text(m)
		s := busy(t)
		if wrong {
			want = text(s.Image())
		}
		if s.Load(m) == wrong || text(room)+text(m) != said || !slices.EqualFunc(wholes, were, bytes.Equal) {
			t.Error("the image is changed")
		}
		for _, b := range wholes {
			spoil(b)
		}
		if text(s.Image()) != want {
			t.Errorf("%s, not %s", short(text(s.Image())), short(want))
		}
		spoilImage(&room)
		if text(s.Image()) != want {
			t.Errorf("%s, not %s", short(text(s.Image())), short(want))
		}
	}
}

// P13.4, rule 5: texts too aren't kept, and no answer stands in the memory of one that was handed in.
func TestTextsMemory(t *testing.T) {
	var lent [][]byte
	of := func(s string) string {
		text, b := borrowed(s)
		lent = append(lent, b)
		return text
	}
	s := New()
	m := empty()
	m.Leaves[0].Path = of("/")
	m.Leaves = append(m.Leaves, api.Leaf{Path: of("/a"), Owner: -1})
	m.Watches = []api.Watch{onData(0, of("/w"))}
	m.Events = []api.Watch{onData(1, of("/e")), onKids(2, of("/f"))}
	if !s.Load(m) {
		t.Fatal("Load")
	}
	want := api.Image{Leaves: []api.Leaf{{Path: "/", Owner: -1}, {Path: "/a", Owner: -1}}, Watches: []api.Watch{onData(0, "/w")}, Events: []api.Watch{onData(1, "/e"), onKids(2, "/f")}}
	for _, b := range lent {
		spoil(b)
	}
	is(t, s, want)
	x, y := s.Image(), s.Image()
	seen := map[*byte]bool{}
	for _, m := range []api.Image{x, y} {
		texts := []string{m.Leaves[0].Path, m.Leaves[1].Path, m.Watches[0].Path, m.Events[0].Path, m.Events[1].Path}
		for _, p := range texts {
			if seen[unsafe.StringData(p)] {
				t.Errorf("%q is answered twice in one memory", p)
			}
			seen[unsafe.StringData(p)] = true
		}
	}
}

// Rule 5: nothing stands in an answer's spare room.
func TestSpareRoom(t *testing.T) {
	blank := func(call string, b []byte) {
		t.Helper()
		if room := b[len(b):cap(b)]; len(bytes.Trim(room, "\x00")) != 0 {
			t.Errorf("%s: spare room %q", call, room)
		}
	}
	for _, o := range all() {
		b, _ := Pack(o)
		blank("Pack", b)
		back, _ := Read(b)
		for _, data := range datas(&back) {
			blank("Read", *data)
		}
		for _, o := range back.Ops[len(back.Ops):cap(back.Ops)] {
			if text(o) != text(api.Op{}) {
				t.Errorf("Read: spare room %s", text(o))
			}
		}
	}
	for _, x := range some() {
		b, _ := PackResult(x)
		blank("PackResult", b)
		back, _ := ReadResult(b)
		blank("ReadResult", back.Leaf.Data)
		for _, name := range back.Names[len(back.Names):cap(back.Names)] {
			if name != "" {
				t.Errorf("ReadResult: spare room %q", name)
			}
		}
		for _, w := range back.Events[len(back.Events):cap(back.Events)] {
			if w != (api.Watch{}) {
				t.Errorf("ReadResult: spare room %v", w)
			}
		}
	}
	m := busy(t).Image()
	for _, w := range m.Events[len(m.Events):cap(m.Events)] {
		if w != (api.Watch{}) {
			t.Errorf("Image: spare room %v", w)
		}
	}
	for _, r := range m.Replies[len(m.Replies):cap(m.Replies)] {
		if text(r) != text(api.Reply{}) {
			t.Errorf("Image: spare room %v", r)
		}
	}
	for _, r := range m.Replies {
		blank("Image", r.Data)
	}
}

// Rule 8: two spaces have nothing in common, though one is loaded of the other.
func TestSpacesApart(t *testing.T) {
	s, other := busy(t), New()
	if !other.Load(s.Image()) {
		t.Fatal("Load")
	}
	want := other.Image()
	for i, o := range []api.Op{set("/q", "x"), plainNode("/y"), drop("/q/t-00000"), get("/z", true), multi(plainNode("/m"), drop("/q/b")), shut()} {
		s.Do(api.Entry{Client: 1, Stamp: 100 + i}, bytesOf(t, o))
		is(t, other, want)
	}
	s.Do(api.Entry{Client: -1, Time: 10000}, nil)
	is(t, other, want)
	is(t, New(), empty())
}

// Rule 1: nil lists and empty ones are the same.
func TestNilIsEmpty(t *testing.T) {
	for kind := 1; kind <= 9; kind++ {
		b, _ := Pack(api.Op{Kind: kind})
		other, e := Pack(api.Op{Kind: kind, Data: []byte{}, Ops: []api.Op{}})
		if !bytes.Equal(b, other) || e != api.OK {
			t.Errorf("kind %d: %q, %d, not %q", kind, other, e, b)
		}
	}
	b, _ := PackResult(api.Result{})
	other, e := PackResult(api.Result{Leaf: api.Leaf{Data: []byte{}}, Names: []string{}, Events: []api.Watch{}})
	if !bytes.Equal(b, other) || e != api.OK {
		t.Errorf("%q, %d, not %q", other, e, b)
	}
	m := empty()
	m.Leaves[0].Data, m.Watches, m.Sessions, m.Events = []byte{}, []api.Watch{}, []api.Session{}, []api.Watch{}
	loads(t, m)
	m.Replies = []api.Reply{{Client: 1, Stamp: 1, Data: []byte{}}}
	loads(t, m)
	m.Leaves = []api.Leaf{}
	refuses(t, m)
}
