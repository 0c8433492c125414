package apply

import (
	"bytes"
	"encoding/binary"
	"fmt"
	"math"
	"testing"

	"stanchion/api"
)

const (
	latest = 1<<40 - 1 // the greatest time, count, stamp, span and version
	most   = 1<<62 - 2 // the greatest number of a result
)

// far: numbers at both ends, at the edges that the chapter names, and such as come to others in fewer bits.
var far = []int{
	math.MinInt, math.MinInt + 1, -1 << 62, -1 << 40, -1 << 32, -256, -2, -1, 0, 1, 2, 7, 8, 9, 255, 256, 257, 1 << 31, 1 << 32, 1<<32 + 1,
	latest - 1, latest, latest + 1, latest + 2, most - 1, most, most + 1, most + 2, most + 3, math.MaxInt - 1, math.MaxInt,
}

// otherNums: numbers' bytes, by another implementation; false, if one has none.
func otherNums(list ...int) ([]byte, bool) {
	var b []byte
	for _, v := range list {
		if v < 0 || v > 1<<62-1 {
			return nil, false
		}
		b = binary.AppendUvarint(b, uint64(v))
	}
	return b, true
}

// otherJoin: fields as a list, how long and how many they may be.
func otherJoin(fields ...[]byte) []byte {
	var b []byte
	for _, f := range fields {
		b = append(binary.AppendUvarint(b, uint64(len(f))), f...)
	}
	return b
}

// otherOp: the operation's bytes, right or not; false, if it has none.
func otherOp(o api.Op) ([]byte, bool) {
	flags := 0
	for i, on := range []bool{o.Brief, o.Numbered, o.Watch} {
		if on {
			flags |= 1 << i
		}
	}
	numbers, ok := otherNums(o.Kind, o.Version+1, o.Span, flags)
	fields := [][]byte{numbers, []byte(o.Path), o.Data}
	for _, part := range o.Ops {
		b, whole := otherOp(part)
		fields, ok = append(fields, b), ok && whole
	}
	return otherJoin(fields...), ok
}

// otherResult: likewise.
func otherResult(x api.Result) ([]byte, bool) {
	numbers, ok := otherNums(int(x.Code), x.Count, x.At, x.Leaf.Version, x.Leaf.Owner+1, x.Leaf.Next, x.Leaf.Born)
	var names [][]byte
	for _, s := range x.Names {
		names = append(names, []byte(s))
	}
	fields := [][]byte{numbers, []byte(x.Leaf.Path), x.Leaf.Data, otherJoin(names...)}
	for _, w := range x.Events {
		numbers, whole := otherNums(w.Client, w.Kind)
		fields, ok = append(fields, otherJoin(numbers, []byte(w.Path))), ok && whole
	}
	return otherJoin(fields...), ok
}

// text: all that something is; a nil list is an empty one.
func text(x any) string { return fmt.Sprintf("%+v", x) }

// short: the beginning of a text.
func short(s string) string { return s[:min(len(s), 300)] }

// form is one of the two that are bytes: its functions, and the other implementation's.
type form[T any] struct {
	pack  func(T) ([]byte, api.Errno)
	read  func([]byte) (T, api.Errno)
	other func(T) ([]byte, bool)
}

var (
	ops     = form[api.Op]{Pack, Read, otherOp}
	results = form[api.Result]{PackResult, ReadResult, otherResult}
)

// taken: x has the bytes that the other implementation tells, and is read from them.
func (f form[T]) taken(t *testing.T, name string, x T) {
	t.Helper()
	want, ok := f.other(x)
	b, e := f.pack(x)
	if !ok || !bytes.Equal(b, want) || e != api.OK {
		t.Errorf("%s: packed as %.80q, %d; not %.80q", name, b, e, want)
	}
	back, e := f.read(want)
	if text(back) != text(x) || e != api.OK {
		t.Errorf("%s: read as %s, %d; not %s", name, short(text(back)), e, short(text(x)))
	}
}

// refused: x has no bytes, and what would be its bytes is nothing.
func (f form[T]) refused(t *testing.T, name string, x T) {
	t.Helper()
	f.unpacked(t, name, x)
	if b, ok := f.other(x); ok {
		f.nothing(t, name, b)
	}
}

// unpacked: x has no bytes.
func (f form[T]) unpacked(t *testing.T, name string, x T) {
	t.Helper()
	if b, e := f.pack(x); len(b) != 0 || e != api.ErrOp {
		t.Errorf("%s: packed as %.80q, %d", name, b, e)
	}
}

// either: taken or refused.
func (f form[T]) either(t *testing.T, name string, x T, right bool) {
	t.Helper()
	if right {
		f.taken(t, name, x)
	} else {
		f.refused(t, name, x)
	}
}

// nothing: these are no bytes of anything.
func (f form[T]) nothing(t *testing.T, name string, b []byte) {
	t.Helper()
	var zero T
	if x, e := f.read(b); text(x) != text(zero) || e != api.ErrOp {
		t.Errorf("%s: %.80q read as %s, %d", name, b, short(text(x)), e)
	}
}

// whole: whatever b is, it is either nothing, or of something that has just these bytes. It answers which.
func (f form[T]) whole(t *testing.T, b []byte) bool {
	t.Helper()
	x, e := f.read(b)
	if e != api.OK {
		f.nothing(t, "bytes", b)
		return false
	}
	back, e := f.pack(x)
	other, ok := f.other(x)
	if !bytes.Equal(back, b) || e != api.OK || !bytes.Equal(other, b) || !ok {
		t.Errorf("%.80q is packed as %.80q, %d, %.80q", b, back, e, other)
	}
	return true
}

// alone: b is bytes of something; with a byte more, less or another in it, or as a beginning of it, it is whole too; with more ahead of it, in a field, or twice it is nothing.
func (f form[T]) alone(t *testing.T, b []byte) {
	t.Helper()
	if !f.whole(t, b) {
		t.Errorf("%.80q is nothing", b)
	}
	for i := range b {
		f.whole(t, b[:i])
		other := bytes.Clone(b)
		for c := range 256 {
			other[i] = byte(c)
			f.whole(t, other)
		}
		for _, c := range []byte{0, 1, 128} {
			f.whole(t, append(append(bytes.Clone(b[:i]), c), b[i:]...))
		}
		f.whole(t, append(bytes.Clone(b[:i]), b[i+1:]...))
	}
	f.nothing(t, "more ahead of it", append([]byte{0}, b...))
	f.nothing(t, "in a field", otherJoin(b))
	f.nothing(t, "twice", append(bytes.Clone(b), b...))
}

// world is a space, with the stamps that clients have come to, how many operations it has done, and the time that is told next.
type world struct {
	t      *testing.T
	s      *Space
	stamps [8]int
	count  int
	time   int
}

// begin: a space in which these clients have sessions of a span of 100, opened in this order.
func begin(t *testing.T, clients ...int) *world {
	t.Helper()
	w := &world{t: t, s: New()}
	for _, client := range clients {
		w.does(client, open(100), told(api.OK))
	}
	return w
}

// bytesOf: an operation's bytes.
func bytesOf(t *testing.T, o api.Op) []byte {
	t.Helper()
	b, e := Pack(o)
	if e != api.OK {
		t.Fatalf("%s isn't right", short(text(o)))
	}
	return b
}

// raw: what bytes, as a client's next operation, come to.
func (w *world) raw(client int, op []byte) api.Result {
	w.t.Helper()
	w.stamps[client]++
	w.count++
	b, now := w.s.Do(api.Entry{Client: client, Stamp: w.stamps[client], Time: w.time}, op)
	x, e := ReadResult(b)
	if !now || e != api.OK {
		w.t.Fatalf("%q: %q, %t, %d", op, b, now, e)
	}
	return x
}

// does: an operation comes to this, and its number.
func (w *world) does(client int, o api.Op, want api.Result) {
	w.t.Helper()
	got := w.raw(client, bytesOf(w.t, o))
	want.Count = w.count
	if text(got) != text(want) {
		w.t.Errorf("client %d, %s: %s, not %s", client, short(text(o)), text(got), text(want))
	}
}

// passes: nothing is done but that it is now this time.
func (w *world) passes(time int) {
	w.t.Helper()
	w.time = time
	if b, now := w.s.Do(api.Entry{Client: -1, Time: time}, nil); len(b) != 0 || now {
		w.t.Errorf("nothing: %q, %t", b, now)
	}
}

// leaves: has the tree the root and these paths, in this order, and no others?
func (w *world) leaves(want ...string) {
	w.t.Helper()
	var got []string
	for _, l := range w.s.Image().Leaves {
		got = append(got, l.Path)
	}
	if text(got) != text(append([]string{"/"}, want...)) {
		w.t.Errorf("the tree has %q, not %q", got, want)
	}
}

// is: is the space this image?
func is(t *testing.T, s *Space, want api.Image) {
	t.Helper()
	if got := s.Image(); text(got) != text(want) {
		t.Errorf("the space is\n\t%s\nnot\n\t%s", text(got), text(want))
	}
}

// Operations.
func open(span int) api.Op { return api.Op{Kind: api.OpOpen, Span: span} }
func ping() api.Op         { return api.Op{Kind: api.OpPing} }
func shut() api.Op         { return api.Op{Kind: api.OpClose} }
func plainNode(p string) api.Op {
	return api.Op{Kind: api.OpMake, Path: p}
}
func briefNode(p string) api.Op    { return api.Op{Kind: api.OpMake, Path: p, Brief: true} }
func numberedNode(p string) api.Op { return api.Op{Kind: api.OpMake, Path: p, Numbered: true} }
func drop(p string) api.Op         { return api.Op{Kind: api.OpDrop, Path: p, Version: -1} }
func set(p, data string) api.Op {
	return api.Op{Kind: api.OpSet, Path: p, Data: []byte(data), Version: -1}
}
func get(p string, watch bool) api.Op { return api.Op{Kind: api.OpGet, Path: p, Watch: watch} }
func kids(p string, watch bool) api.Op {
	return api.Op{Kind: api.OpKids, Path: p, Watch: watch}
}
func multi(list ...api.Op) api.Op { return api.Op{Kind: api.OpMulti, Ops: list} }

// told: a result of an error, or OK, and of events.
func told(code api.Errno, events ...api.Watch) api.Result {
	return api.Result{Code: code, Leaf: api.Leaf{Owner: -1}, Events: events}
}

// toldPath: a result of a path, a version, and events.
func toldPath(p string, version int, events ...api.Watch) api.Result {
	return api.Result{Leaf: api.Leaf{Path: p, Version: version, Owner: -1}, Events: events}
}

// toldNames: a result of names and events.
func toldNames(names []string, events ...api.Watch) api.Result {
	return api.Result{Leaf: api.Leaf{Owner: -1}, Names: names, Events: events}
}

// onData, onKids: a client's watch, or event.
func onData(client int, p string) api.Watch {
	return api.Watch{Client: client, Kind: api.WatchData, Path: p}
}
func onKids(client int, p string) api.Watch {
	return api.Watch{Client: client, Kind: api.WatchKids, Path: p}
}
