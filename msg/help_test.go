package msg

import (
	"bytes"
	"encoding/binary"
	"fmt"
	"math"
	"strings"
	"testing"

	"stanchion/api"
)

// far: numbers that are below no limit, such as come to small ones in fewer bits or without their sign among them.
var far = []int{math.MinInt, math.MinInt + 1, -api.MaxNum, -1 << 32, -256, -2, -1, api.MaxWide, api.MaxWide + 1, 1 << 48, api.MaxNum - 1, api.MaxNum, api.MaxNum + 1, math.MaxInt - 1, math.MaxInt}

// farther: far, and numbers that are wide, but no client's, node's or role's.
var farther = append([]int{64, 65, 127, 128, 255, 256, 257, 258, 1 << 16, 1<<16 + 1, 1 << 32, 1<<32 + 1, 1<<32 + 2, api.MaxWide - 1}, far...)

// has: of each kind the fields that it has, in their order: v View, s Seq, c Client, t Stamp, e Entry, g Digest, a Data, p Proof, n Proven.
var has = map[int]string{
	api.MRequest: "cta",
	api.MAck:     "ctg",
	api.MPropose: "vse",
	api.MPrepare: "vse",
	api.MCommit:  "vse",
	api.MDecide:  "se",
	api.MFetch:   "g",
	api.MBody:    "cta",
	api.MReply:   "scta",
	api.MCheck:   "sg",
	api.MChange:  "vspn",
	api.MView:    "vp",
	api.MAsk:     "s",
	api.MState:   "sa",
}

// kindsWith: the kinds that have a field.
func kindsWith(field rune) []int {
	var kinds []int
	for kind := 1; kind <= 14; kind++ {
		if strings.ContainsRune(has[kind], field) {
			kinds = append(kinds, kind)
		}
	}
	return kinds
}

// noKinds are kinds that there aren't.
var noKinds = append([]int{0, 15, 16, 100, 128, 256 + api.MAsk, 1<<32 + api.MAsk}, far...)

// hash: a digest's bytes.
func hash(c byte) []byte { return bytes.Repeat([]byte{c}, 32) }

// nothing: the entry of nothing.
func nothing() api.Entry { return api.Entry{Client: -1} }

// something: an entry, right.
func something() api.Entry { return api.Entry{Client: 2, Stamp: 5, Time: 7, Digest: hash('d')} }

// letter: one that is right.
func letter() api.Letter {
	return api.Letter{From: api.Id{Role: api.Doer, N: 1}, Role: api.Orderer, Body: []byte("body"), Tags: [][]byte{[]byte("tag"), nil}}
}

// sized: a right letter whose Body has n bytes.
func sized(n int) api.Letter {
	return api.Letter{From: api.Id{Role: api.Keeper}, Role: api.Peer, Body: bytes.Repeat([]byte("b"), n)}
}

// fill: the field of the message is a right one, and not zero.
func fill(m *api.Msg, field rune) {
	switch field {
	case 'v':
		m.View = 2
	case 's':
		m.Seq = 300
	case 'c':
		m.Client = 1
	case 't':
		m.Stamp = 6
	case 'e':
		m.Entry = something()
	case 'g':
		m.Digest = hash('g')
	case 'a':
		m.Data = []byte("op")
	case 'p':
		m.Proof = []api.Letter{letter()}
	case 'n':
		m.Proven = []api.Proven{{Seq: 5, View: 1, Entry: something(), Votes: []api.Letter{letter(), letter()}}, {Entry: nothing()}}
	}
}

// full: a right message of a kind, all fields of which aren't zero.
func full(kind int) api.Msg {
	m := api.Msg{Kind: kind}
	for _, field := range has[kind] {
		fill(&m, field)
	}
	return m
}

// otherNums: numbers' bytes, by another implementation; false, if one has none.
func otherNums(list ...int) ([]byte, bool) {
	var b []byte
	for _, v := range list {
		if v < 0 || v > 1<<62-1 {
			return nil, false
		}
		b = binary.AppendUvarint(b, uint64(v))
	}
	return b, true
}

// otherJoin: fields as a list, how long they may be.
func otherJoin(fields ...[]byte) []byte {
	var b []byte
	for _, f := range fields {
		b = append(binary.AppendUvarint(b, uint64(len(f))), f...)
	}
	return b
}

// otherEntry: the entry's bytes, right or not; false, if it has none.
func otherEntry(e api.Entry) ([]byte, bool) {
	numbers, ok := otherNums(e.Client+1, e.Stamp, e.Time)
	return otherJoin(numbers, e.Digest), ok
}

// otherLetter: likewise.
func otherLetter(l api.Letter) ([]byte, bool) {
	numbers, ok := otherNums(l.From.Role, l.From.N, l.Role)
	return otherJoin(numbers, l.Body, otherJoin(l.Tags...)), ok
}

// otherLetters: likewise.
func otherLetters(list []api.Letter) ([]byte, bool) {
	all := true
	var fields [][]byte
	for _, l := range list {
		b, ok := otherLetter(l)
		fields, all = append(fields, b), all && ok
	}
	return otherJoin(fields...), all
}

// otherProven: likewise.
func otherProven(list []api.Proven) ([]byte, bool) {
	all := true
	var fields [][]byte
	for _, p := range list {
		numbers, ok := otherNums(p.Seq, p.View)
		e, entryOk := otherEntry(p.Entry)
		votes, votesOk := otherLetters(p.Votes)
		fields, all = append(fields, otherJoin(numbers, e, votes)), all && ok && entryOk && votesOk
	}
	return otherJoin(fields...), all
}

// otherFields: the message's fields as bytes, its kind ahead of them; false, if one has none.
func otherFields(m api.Msg) ([][]byte, bool) {
	kind, all := otherNums(m.Kind)
	fields := [][]byte{kind}
	for _, field := range has[m.Kind] {
		var b []byte
		ok := true
		switch field {
		case 'v':
			b, ok = otherNums(m.View)
		case 's':
			b, ok = otherNums(m.Seq)
		case 'c':
			b, ok = otherNums(m.Client)
		case 't':
			b, ok = otherNums(m.Stamp)
		case 'e':
			b, ok = otherEntry(m.Entry)
		case 'g':
			b = m.Digest
		case 'a':
			b = m.Data
		case 'p':
			b, ok = otherLetters(m.Proof)
		case 'n':
			b, ok = otherProven(m.Proven)
		}
		fields, all = append(fields, b), all && ok
	}
	return fields, all
}

// otherMsg: the message's bytes, right or not; false, if it has none.
func otherMsg(m api.Msg) ([]byte, bool) {
	fields, ok := otherFields(m)
	return otherJoin(fields...), ok
}

// text: all that a message, letter or entry is; a nil list is an empty one.
func text(x any) string { return fmt.Sprintf("%v", x) }

// short: the beginning of a text.
func short(s string) string { return s[:min(len(s), 200)] }

// form is one of the three that are bytes: its functions, and the other implementation's.
type form[T any] struct {
	pack  func(T) ([]byte, api.Errno)
	read  func([]byte) (T, api.Errno)
	other func(T) ([]byte, bool)
}

var (
	messages = form[api.Msg]{Encode, Decode, otherMsg}
	letters  = form[api.Letter]{PackLetter, ReadLetter, otherLetter}
	entries  = form[api.Entry]{PackEntry, ReadEntry, otherEntry}
)

// taken: x has the bytes that the other implementation tells, and is read from them.
func (f form[T]) taken(t *testing.T, name string, x T) {
	t.Helper()
	want, ok := f.other(x)
	b, e := f.pack(x)
	if !ok || !bytes.Equal(b, want) || e != api.OK {
		t.Errorf("%s: packed as %.80q, %d; not %.80q", name, b, e, want)
	}
	back, e := f.read(want)
	if text(back) != text(x) || e != api.OK {
		t.Errorf("%s: read as %s, %d; not %s", name, short(text(back)), e, short(text(x)))
	}
}

// refused: x has no bytes, by this error, and what would be its bytes is nothing.
func (f form[T]) refused(t *testing.T, name string, x T, want api.Errno) {
	t.Helper()
	if b, e := f.pack(x); len(b) != 0 || e != want {
		t.Errorf("%s: packed as %.80q, %d; not %d", name, b, e, want)
	}
	if b, ok := f.other(x); ok {
		f.nothing(t, name, b)
	}
}

// nothing: these are no bytes of anything.
func (f form[T]) nothing(t *testing.T, name string, b []byte) {
	t.Helper()
	var zero T
	if x, e := f.read(b); text(x) != text(zero) || e != api.ErrForm {
		t.Errorf("%s: %.80q read as %s, %d", name, b, short(text(x)), e)
	}
}

// whole: whatever b is, it is either nothing, or of something that has just these bytes. It answers which.
func (f form[T]) whole(t *testing.T, b []byte) bool {
	t.Helper()
	x, e := f.read(b)
	if e != api.OK {
		f.nothing(t, "bytes", b)
		return false
	}
	back, e := f.pack(x)
	other, ok := f.other(x)
	if !bytes.Equal(back, b) || e != api.OK || !bytes.Equal(other, b) || !ok {
		t.Errorf("%.80q is packed as %.80q, %d, %.80q", b, back, e, other)
	}
	return true
}

// eachByte: each byte of b counts: with another one in its place it is whole too.
func (f form[T]) eachByte(t *testing.T, b []byte) {
	t.Helper()
	for i := range b {
		was := b[i]
		for c := range 256 {
			b[i] = byte(c)
			f.whole(t, b)
		}
		b[i] = was
	}
}

// alone: b is bytes of something, but neither are its beginnings, nor more than it.
func (f form[T]) alone(t *testing.T, b []byte) {
	t.Helper()
	if !f.whole(t, b) {
		t.Errorf("%.80q is nothing", b)
	}
	for i := range b {
		f.nothing(t, "cut off", b[:i])
	}
	f.nothing(t, "more behind it", append(bytes.Clone(b), 0))
	f.nothing(t, "more ahead of it", append([]byte{0}, b...))
	f.nothing(t, "twice", append(bytes.Clone(b), b...))
}
