package snap

import (
	"bytes"
	"encoding/binary"
	"fmt"
	"math"
	"testing"

	"stanchion/api"
	"stanchion/apply"
)

const (
	latest   = 1<<40 - 1 // the greatest time, count, stamp and sign
	greatest = 1<<62 - 1 // the greatest number that has bytes
)

// far: numbers at both ends, at the edges that the chapters name, and such as come to others in fewer bits.
var far = []int{
	math.MinInt, math.MinInt + 1, -1 << 62, -1 << 40, -1 << 32, -256, -2, -1, 0, 1, 2, 3, 7, 8, 9, 127, 128, 255, 256, 257,
	999_999, 1_000_000, 1_000_001, 1 << 31, 1 << 32, 1<<32 + 1, latest - 1, latest, latest + 1, latest + 2,
	greatest - 1, greatest, greatest + 1, greatest + 2, math.MaxInt - 1, math.MaxInt,
}

// otherNums: numbers' bytes, by another implementation; bytes of no numbers and false, if one has none.
func otherNums(list ...int) ([]byte, bool) {
	var b []byte
	for _, v := range list {
		if v < 0 || v > greatest {
			return []byte{128}, false
		}
		b = binary.AppendUvarint(b, uint64(v))
	}
	return b, true
}

// otherJoin: fields as a list, how long and how many they may be.
func otherJoin(fields ...[]byte) []byte {
	var b []byte
	for _, f := range fields {
		b = append(binary.AppendUvarint(b, uint64(len(f))), f...)
	}
	return b
}

// allShort: are all of these fields no longer than a field may be?
func allShort(fields ...[]byte) bool {
	for _, f := range fields {
		if len(f) > 65536 {
			return false
		}
	}
	return true
}

// otherList: a list of what each is as bytes; false, if there is no such list.
func otherList[T any](list []T, other func(T) ([]byte, bool)) ([]byte, bool) {
	var fields [][]byte
	all := true
	for _, x := range list {
		b, ok := other(x)
		fields, all = append(fields, b), all && ok
	}
	return otherJoin(fields...), all && allShort(fields...)
}

func otherLeaf(l api.Leaf) ([]byte, bool) {
	numbers, ok := otherNums(l.Version, l.Owner+1, l.Next, l.Born)
	return otherJoin([]byte(l.Path), l.Data, numbers), ok
}

func otherWatch(w api.Watch) ([]byte, bool) {
	numbers, ok := otherNums(w.Client, w.Kind)
	return otherJoin(numbers, []byte(w.Path)), ok
}

func otherReply(r api.Reply) ([]byte, bool) {
	numbers, ok := otherNums(r.Client, r.Stamp)
	return otherJoin(numbers, r.Data), ok && allShort(r.Data)
}

// otherFields: an image's six fields, whether a space can be it or not; false, if one has no bytes, or too many (the fields are as if there were no limit of that).
func otherFields(m api.Image) ([][]byte, bool) {
	var signs []int
	for _, s := range m.Sessions {
		signs = append(signs, s.Client, s.Span, s.Seen)
	}
	fields, all := make([][]byte, 6), true
	for i, make := range []func() ([]byte, bool){
		func() ([]byte, bool) { return otherNums(m.Time, m.Count) },
		func() ([]byte, bool) { return otherList(m.Leaves, otherLeaf) },
		func() ([]byte, bool) { return otherList(m.Watches, otherWatch) },
		func() ([]byte, bool) { return otherList(m.Events, otherWatch) },
		func() ([]byte, bool) { return otherNums(signs...) },
		func() ([]byte, bool) { return otherList(m.Replies, otherReply) },
	} {
		b, ok := make()
		fields[i], all = b, all && ok
	}
	return fields, all && allShort(fields...)
}

// otherBytes: likewise the bytes.
func otherBytes(m api.Image) ([]byte, bool) {
	fields, ok := otherFields(m)
	return otherJoin(fields...), ok
}

// text: all that something is; a nil list is an empty one.
func text(x any) string { return fmt.Sprintf("%+v", x) }

// brief: the beginning of a text.
func brief(s string) string { return s[:min(len(s), 300)] }

// onData, onKids: a client's watch, or event.
func onData(client int, p string) api.Watch {
	return api.Watch{Client: client, Kind: api.WatchData, Path: p}
}
func onKids(client int, p string) api.Watch {
	return api.Watch{Client: client, Kind: api.WatchKids, Path: p}
}

// empty: the image of an empty space.
func empty() api.Image { return api.Image{Leaves: []api.Leaf{{Path: "/", Owner: -1}}} }

// full: an image of all kinds of things, many at their edges.
func full() api.Image {
	return api.Image{
		Time: latest, Count: 300,
		Leaves:   []api.Leaf{{Path: "/", Owner: -1, Next: 3, Data: []byte("root")}, {Path: "/a", Owner: 9, Version: 5}, {Path: "/b", Owner: -1, Born: 7}, {Path: "/b/c", Owner: 0, Data: bytes.Repeat([]byte("c"), 128)}},
		Watches:  []api.Watch{onData(0, "/"), onData(7, "/"), onKids(3, "/"), onKids(7, "/b")},
		Sessions: []api.Session{{Client: 0, Span: 1, Seen: latest}, {Client: 3, Span: 1_000_000}},
		Events:   []api.Watch{onKids(0, "/"), onData(0, "/x"), onData(0, "/x"), onData(3, "/b"), onKids(6, "/"), onData(6, "/")},
		Replies:  []api.Reply{{Client: 0, Stamp: 1}, {Client: 2, Stamp: latest, Data: []byte("any")}, {Client: 7, Stamp: 3, Data: bytes.Repeat([]byte("r"), 300)}},
	}
}

// little: an image that has one of each, and few bytes.
func little() api.Image {
	return api.Image{
		Time: 1, Count: 2,
		Leaves:   []api.Leaf{{Path: "/", Owner: -1}, {Path: "/a", Data: []byte("d"), Version: 3, Owner: 1, Next: 4, Born: 2}},
		Watches:  []api.Watch{onData(1, "/")},
		Sessions: []api.Session{{Client: 1, Span: 5, Seen: 1}},
		Events:   []api.Watch{onKids(2, "/a")},
		Replies:  []api.Reply{{Client: 3, Stamp: 6, Data: []byte("r")}},
	}
}

// loaded: a space that is the image.
func loaded(t *testing.T, m api.Image) *apply.Space {
	t.Helper()
	s := apply.New()
	if !s.Load(m) {
		t.Fatalf("no space can be %s", brief(text(m)))
	}
	return s
}

// taken: the image, and a space that is it, have the bytes that the other implementation tells, and are read from them.
func taken(t *testing.T, name string, m api.Image) {
	t.Helper()
	want, ok := otherBytes(m)
	if !ok {
		t.Errorf("%s: the other implementation has no bytes", name)
	}
	b, e := Pack(m)
	if !bytes.Equal(b, want) || e != api.OK {
		t.Errorf("%s: packed as %.80q, %d; not %.80q", name, b, e, want)
	}
	b, e = Take(loaded(t, m))
	if !bytes.Equal(b, want) || e != api.OK {
		t.Errorf("%s: taken as %.80q, %d; not %.80q", name, b, e, want)
	}
	back, e := Read(want)
	if text(back) != text(m) || e != api.OK {
		t.Errorf("%s: read as %s, %d; not %s", name, brief(text(back)), e, brief(text(m)))
	}
	s, e := Back(want)
	if s == nil || e != api.OK {
		t.Fatalf("%s: no space is back, %d", name, e)
	}
	if is := s.Image(); text(is) != text(m) {
		t.Errorf("%s: back is %s; not %s", name, brief(text(is)), brief(text(m)))
	}
}

// unpacked: the image has no bytes, and a space that is it, if one can be, neither.
func unpacked(t *testing.T, name string, m api.Image) {
	t.Helper()
	if b, e := Pack(m); len(b) != 0 || e != api.ErrSnap {
		t.Errorf("%s: packed as %.80q, %d", name, b, e)
	}
	s := apply.New()
	if !s.Load(m) {
		return
	}
	if b, e := Take(s); len(b) != 0 || e != api.ErrSnap {
		t.Errorf("%s: taken as %.80q, %d", name, b, e)
	}
}

// refused: the image has no bytes, and what would be its bytes is nothing.
func refused(t *testing.T, name string, m api.Image) {
	t.Helper()
	unpacked(t, name, m)
	b, _ := otherBytes(m)
	nothing(t, name, b)
}

// either: taken or refused.
func either(t *testing.T, name string, m api.Image, right bool) {
	t.Helper()
	if right {
		taken(t, name, m)
	} else {
		refused(t, name, m)
	}
}

// nothing: these are no bytes of an image.
func nothing(t *testing.T, name string, b []byte) {
	t.Helper()
	if m, e := Read(b); text(m) != text(api.Image{}) || e != api.ErrSnap {
		t.Errorf("%s: %.80q read as %s, %d", name, b, brief(text(m)), e)
	}
	if s, e := Back(b); s != nil || e != api.ErrSnap {
		t.Errorf("%s: of %.80q a space is back, %d", name, b, e)
	}
}

// whole: whatever b is, it is either nothing, or of an image that has just these bytes. It answers which.
func whole(t *testing.T, b []byte) bool {
	t.Helper()
	m, e := Read(b)
	if e != api.OK {
		nothing(t, "bytes", b)
		return false
	}
	packed, e := Pack(m)
	other, ok := otherBytes(m)
	if !bytes.Equal(packed, b) || e != api.OK || !bytes.Equal(other, b) || !ok {
		t.Errorf("%.80q is packed as %.80q, %d, %.80q", b, packed, e, other)
	}
	s, e := Back(b)
	if s == nil || e != api.OK {
		t.Fatalf("%.80q: no space is back, %d", b, e)
	}
	if text(s.Image()) != text(m) {
		t.Errorf("%.80q: another image is back", b)
	}
	return true
}
