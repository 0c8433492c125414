package msg

import (
	"bytes"
	"fmt"
	"slices"
	"testing"

	"stanchion/api"
)

// roomy: bytes, with others behind their length in their memory; and all that memory.
func roomy(s []byte) (b, whole []byte) {
	whole = append(bytes.Clone(s), "behind the length"...)
	return whole[:len(s)], whole
}

// spoil: all that b's memory holds is another, spare room too.
func spoil(b []byte) {
	b = b[:cap(b)]
	for i := range b {
		b[i] ^= 0x55
	}
}

// textsOfLetter: all lists of bytes in a letter.
func textsOfLetter(l *api.Letter) []*[]byte {
	list := []*[]byte{&l.Body}
	for i := range l.Tags {
		list = append(list, &l.Tags[i])
	}
	return list
}

// textsOf: all lists of bytes in a message.
func textsOf(m *api.Msg) []*[]byte {
	list := []*[]byte{&m.Digest, &m.Data, &m.Entry.Digest}
	for i := range m.Proof {
		list = append(list, textsOfLetter(&m.Proof[i])...)
	}
	for i := range m.Proven {
		p := &m.Proven[i]
		list = append(list, &p.Entry.Digest)
		for k := range p.Votes {
			list = append(list, textsOfLetter(&p.Votes[k])...)
		}
	}
	return list
}

// crowded: each list of bytes in the message has others behind its length from here on; and all that memory.
func crowded(m *api.Msg) [][]byte {
	var wholes [][]byte
	for _, b := range textsOf(m) {
		var whole []byte
		*b, whole = roomy(*b)
		wholes = append(wholes, whole)
	}
	return wholes
}

// clones: copies of all these.
func clones(list [][]byte) [][]byte {
	var copies [][]byte
	for _, b := range list {
		copies = append(copies, bytes.Clone(b))
	}
	return copies
}

// alike: are these the same bytes?
func alike(a, b [][]byte) bool {
	return slices.EqualFunc(a, b, bytes.Equal)
}

// crowd: messages of all kinds, and such as aren't right.
func crowd() []api.Msg {
	list := all()
	for _, m := range all() {
		m.View--
		list = append(list, m)
	}
	return append(list, changeWith([]api.Letter{letter(), sized(api.MaxField)}, []api.Letter{letter()}))
}

// P8.3: what is handed in is as it was, and what was answered doesn't hang on it.
func TestEncodeMemory(t *testing.T) {
	for i, m := range crowd() {
		wholes := crowded(&m)
		were, said := clones(wholes), text(m)
		b, e := Encode(m)
		want := bytes.Clone(b)
		if !alike(wholes, were) || text(m) != said {
			t.Errorf("message %d is changed", i)
		}
		spoil(b)
		if !alike(wholes, were) {
			t.Errorf("the bytes of message %d are its own", i)
		}
		b, again := Encode(m)
		for _, whole := range wholes {
			spoil(whole)
		}
		if !bytes.Equal(b, want) || again != e {
			t.Errorf("the bytes of message %d hang on it, %d, %d", i, e, again)
		}
	}
}

// P8.3
func TestPackMemory(t *testing.T) {
	l := letter()
	x, bodyWhole := roomy(l.Body)
	tag, tagWhole := roomy(l.Tags[0])
	l.Body, l.Tags = x, append([][]byte{tag, nil}, []byte("behind"))[:2]
	e := something()
	d, digestWhole := roomy(e.Digest)
	e.Digest = d
	wholes := [][]byte{bodyWhole, tagWhole, digestWhole, l.Tags[:3][2]}
	were := clones(wholes)
	lb, _ := PackLetter(l)
	eb, _ := PackEntry(e)
	wantL, wantE := bytes.Clone(lb), bytes.Clone(eb)
	if !alike(wholes, were) || len(l.Tags) != 2 {
		t.Error("changed")
	}
	for _, whole := range wholes {
		spoil(whole)
	}
	if !bytes.Equal(lb, wantL) || !bytes.Equal(eb, wantE) {
		t.Error("the bytes hang on what was handed in")
	}
	for i := range wholes {
		copy(wholes[i], were[i])
	}
	spoil(lb)
	spoil(eb)
	if !alike(wholes, were) {
		t.Error("the bytes are what was handed in")
	}
}

// P8.3, rule 5: behind the lists' lengths there may be more letters, tags and proven ones.
func TestListsSpareRoom(t *testing.T) {
	m := full(api.MChange)
	proof, tags := append(m.Proof, sized(9)), append(m.Proof[0].Tags, []byte("tag"))
	proven, votes := append(m.Proven, api.Proven{Seq: -1}), append(m.Proven[0].Votes, sized(9))
	m.Proof, m.Proven = proof[:1], proven[:2]
	m.Proof[0].Tags, m.Proven[0].Votes = tags[:2], votes[:2]
	was := fmt.Sprint(proof, tags, proven, votes)
	want, _ := Encode(full(api.MChange))
	if b, e := Encode(m); !bytes.Equal(b, want) || e != api.OK {
		t.Errorf("%q, %d", b, e)
	}
	if fmt.Sprint(proof, tags, proven, votes) != was {
		t.Error("changed")
	}
}

// P8.3: the bytes are as they were, and what was read doesn't hang on them.
func TestReadMemory(t *testing.T) {
	for i, m := range crowd() {
		b, ok := otherMsg(m)
		if !ok {
			continue
		}
		checkRead(t, messages, i, b)
	}
	for i, l := range rightLetters() {
		b, _ := otherLetter(l)
		checkRead(t, letters, i, b)
		checkRead(t, letters, i, b[1:])
	}
	for i, e := range rightEntries() {
		b, _ := otherEntry(e)
		checkRead(t, entries, i, b)
		checkRead(t, entries, i, b[1:])
	}
}

// checkRead: reading b changes nothing of it, and keeps nothing.
func checkRead[T any](t *testing.T, f form[T], i int, s []byte) {
	t.Helper()
	b, whole := roomy(s)
	was := bytes.Clone(whole)
	x, _ := f.read(b)
	want := text(x)
	if !bytes.Equal(whole, was) {
		t.Errorf("bytes %d are changed", i)
	}
	spoil(whole)
	if text(x) != want {
		t.Errorf("what bytes %d are hangs on them", i)
	}
}

// P8.3, rule 5: what is read is new memory: the bytes are as they were whatever becomes of it, and no two of its lists share any.
func TestReadApart(t *testing.T) {
	for _, m := range all() {
		b, whole := roomy(must(Encode(m)))
		was := bytes.Clone(whole)
		want, _ := Decode(b)
		for i := range textsOf(&want) {
			got, _ := Decode(b)
			lists := textsOf(&got)
			spoil(*lists[i])
			_ = append(*lists[i], "more and more and more"...)
			*lists[i] = *textsOf(&want)[i]
			if text(got) != text(want) {
				t.Errorf("kind %d: others hang on list %d", m.Kind, i)
			}
		}
		if !bytes.Equal(whole, was) {
			t.Errorf("kind %d: the bytes are changed", m.Kind)
		}
	}
}

// P8.3, rule 5: no two lists of letters, or of tags, share memory.
func TestReadListsApart(t *testing.T) {
	m := full(api.MChange)
	m.Proof, m.Proven[1].Votes = several(5), several(3)
	for i := range m.Proof {
		m.Proof[i].Tags = [][]byte{{1}, {2}, {3}}
	}
	want := text(m)
	got := must(Decode(must(Encode(m))))
	_ = append(got.Proof, sized(1), sized(2), sized(3))
	_ = append(got.Proven, api.Proven{}, api.Proven{}, api.Proven{})
	for i := range got.Proof {
		_ = append(got.Proof[i].Tags, []byte("a"), []byte("b"), []byte("c"))
	}
	for i := range got.Proven {
		_ = append(got.Proven[i].Votes, sized(1), sized(2), sized(3))
	}
	if text(got) != want {
		t.Error("lists hang on another")
	}
	for i := range got.Proof {
		got.Proof[i].Tags[1] = nil
		m.Proof[i].Tags[1] = nil
		if text(got) != text(m) {
			t.Errorf("others hang on the tags of letter %d", i)
		}
	}
}

// P8.3, rule 5: nothing stands in an answer's spare room.
func TestSpareRoom(t *testing.T) {
	for _, m := range all() {
		b := must(Encode(m))
		got := must(Decode(b))
		for i, list := range append(textsOf(&got), &b) {
			if room := (*list)[len(*list):cap(*list)]; len(bytes.Trim(room, "\x00")) != 0 {
				t.Errorf("kind %d, list %d: %q", m.Kind, i, room)
			}
		}
		for _, l := range got.Proof[len(got.Proof):cap(got.Proof)] {
			if text(l) != text(api.Letter{}) {
				t.Errorf("kind %d: a letter in the spare room", m.Kind)
			}
		}
	}
}

// P8.3, P2: two answers have nothing in common, and hang on the arguments alone.
func TestAnswersApart(t *testing.T) {
	for _, m := range all() {
		b := must(Encode(m))
		want := bytes.Clone(b)
		other := must(Encode(m))
		first, second := must(Decode(other)), must(Decode(other))
		spoil(b)
		for _, list := range textsOf(&first) {
			spoil(*list)
		}
		if text(second) != text(m) || !bytes.Equal(other, want) || !bytes.Equal(must(Encode(m)), want) || text(must(Decode(want))) != text(m) {
			t.Errorf("kind %d: answers hang on one another", m.Kind)
		}
	}
}
