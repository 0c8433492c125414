package msg

import (
	"fmt"
	"math"
	"strings"
	"testing"

	"stanchion/api"
)

// wide: numbers from 0 to MaxWide - 1, the edges of their bytes' count among them.
var wide = []int{0, 1, 63, 64, 127, 128, 300, 1<<14 - 1, 1 << 14, 1 << 32, api.MaxWide - 2, api.MaxWide - 1}

// entryChange makes an entry another.
type entryChange struct {
	name   string
	change func(e *api.Entry)
}

// wrongEntries: changes after which something isn't a right entry.
func wrongEntries() []entryChange {
	var list []entryChange
	add := func(name string, change func(e *api.Entry)) { list = append(list, entryChange{name, change}) }
	for _, v := range farther {
		if v != -1 {
			add(fmt.Sprint("Client ", v), func(e *api.Entry) { e.Client = v })
		}
	}
	for _, v := range []int{api.MaxPeers, api.MaxPeers + 1} {
		add(fmt.Sprint("Client ", v), func(e *api.Entry) { e.Client = v })
	}
	for _, v := range far {
		add(fmt.Sprint("Stamp ", v), func(e *api.Entry) { e.Stamp = v })
		add(fmt.Sprint("Time ", v), func(e *api.Entry) { e.Time = v })
		add(fmt.Sprint("nothing, Time ", v), func(e *api.Entry) { *e = api.Entry{Client: -1, Time: v} })
		add(fmt.Sprint("nothing, Stamp ", v), func(e *api.Entry) { *e = api.Entry{Client: -1, Stamp: v} })
	}
	for _, n := range []int{0, 1, 16, 31, 33, 64, 32 + 256} {
		add(fmt.Sprintf("Digest of %d bytes", n), func(e *api.Entry) { e.Digest = make([]byte, n) })
	}
	for _, n := range []int{1, 31, 32, 33} {
		add(fmt.Sprintf("nothing, Digest of %d bytes", n), func(e *api.Entry) { *e = api.Entry{Client: -1, Digest: make([]byte, n)} })
	}
	add("nothing, Stamp 1", func(e *api.Entry) { *e = api.Entry{Client: -1, Stamp: 1} })
	add("nothing, but with the rest", func(e *api.Entry) { e.Client = -1 })
	add("zero", func(e *api.Entry) { *e = api.Entry{} })
	return list
}

// rightEntries: the edges of what an entry may be.
func rightEntries() []api.Entry {
	list := []api.Entry{nothing(), something(), {Client: -1, Digest: []byte{}}, {Digest: hash(0)}, {Client: 7, Stamp: api.MaxWide - 1, Time: api.MaxWide - 1, Digest: hash(255)}}
	for client := range api.MaxPeers {
		list = append(list, api.Entry{Client: client, Stamp: 1, Time: 1, Digest: hash('x')})
	}
	for _, v := range wide {
		list = append(list, api.Entry{Client: 3, Stamp: v, Time: 1, Digest: hash('x')}, api.Entry{Client: 3, Stamp: 1, Time: v, Digest: hash('x')}, api.Entry{Client: -1, Time: v})
	}
	return list
}

// P8.1: bytes written out.
func TestPackEntryKnown(t *testing.T) {
	for _, x := range []struct {
		e    api.Entry
		want string
	}{
		{nothing(), "\x03\x00\x00\x00\x00"},
		{api.Entry{Client: -1, Time: 3}, "\x03\x00\x00\x03\x00"},
		{api.Entry{Client: -1, Time: 300}, "\x04\x00\x00\xac\x02\x00"},
		{something(), "\x03\x03\x05\x07\x20" + strings.Repeat("d", 32)},
		{api.Entry{Digest: hash(0)}, "\x03\x01\x00\x00\x20" + strings.Repeat("\x00", 32)},
		{api.Entry{Client: 7, Stamp: api.MaxWide - 1, Time: 128, Digest: hash('d')}, "\x09\x08\xff\xff\xff\xff\xff\x1f\x80\x01\x20" + strings.Repeat("d", 32)},
	} {
		if b, e := PackEntry(x.e); string(b) != x.want || e != api.OK {
			t.Errorf("%v: %q, %d", x.e, b, e)
		}
		if back, e := ReadEntry([]byte(x.want)); text(back) != text(x.e) || e != api.OK {
			t.Errorf("%q: %v, %d", x.want, back, e)
		}
	}
}

// P8.1, P8.2
func TestEntriesTaken(t *testing.T) {
	for _, e := range rightEntries() {
		entries.taken(t, text(e), e)
		for _, kind := range kindsWith('e') {
			m := full(kind)
			m.Entry = e
			messages.taken(t, fmt.Sprint("kind ", kind), m)
		}
		m := full(api.MChange)
		m.Proven[1].Entry = e
		messages.taken(t, "proven", m)
	}
}

// P8.1, P8.2: in whatever it stands.
func TestEntriesRefused(t *testing.T) {
	for _, c := range wrongEntries() {
		e := something()
		c.change(&e)
		entries.refused(t, c.name, e, api.ErrField)
		for _, kind := range kindsWith('e') {
			m := full(kind)
			m.Entry = e
			messages.refused(t, fmt.Sprintf("%s in kind %d", c.name, kind), m, api.ErrField)
		}
		for i := range 2 {
			m := full(api.MChange)
			m.Proven[i].Entry = e
			messages.refused(t, c.name+" proven", m, api.ErrField)
		}
	}
}

// P8.1: a digest's length is told, however long it is.
func TestEntryLongDigest(t *testing.T) {
	for _, n := range []int{api.MaxField, api.MaxField + 1, 1 << 20} {
		e := something()
		e.Digest = make([]byte, n)
		entries.refused(t, fmt.Sprint(n), e, api.ErrField)
	}
}

// P8.2
func TestReadEntryRefuses(t *testing.T) {
	d := strings.Repeat("d", 32)
	for _, b := range []string{
		"",
		"\x00",
		"\x00\x00",                                 // no numbers
		"\x03\x00\x00\x00",                         // no digest
		"\x03\x00\x00\x00\x00\x00",                 // a field too many
		"\x00\x03\x00\x00\x00\x00",                 // one ahead of them
		"\x02\x00\x00\x00",                         // too few numbers
		"\x04\x00\x00\x00\x00\x00",                 // too many
		"\x03\x00\x01\x00\x00",                     // of nothing, a stamp
		"\x03\x00\x00\x00\x20" + d,                 // of nothing, a digest
		"\x03\x01\x00\x00\x00",                     // no digest
		"\x03\x01\x00\x00\x1f" + d[1:],             // one too short
		"\x03\x01\x00\x00\x21" + d + "d",           // one too long
		"\x03\x09\x00\x00\x20" + d,                 // no such client
		"\x04\x81\x00\x00\x00\x20" + d,             // a number in another way
		"\x83\x00\x00\x00\x00\x00",                 // a count in another way
		"\x04\x00\x00\x80\x00\x00",                 // likewise
		"\x08\x00\x00\x80\x80\x80\x80\x80\x20\x00", // a time too late
		"\x03\x00\x00\x80\x00",                     // a number cut off
	} {
		entries.nothing(t, "wrong", []byte(b))
	}
	entries.nothing(t, "nil", nil)
	for _, e := range rightEntries() {
		b, _ := otherEntry(e)
		entries.alone(t, b)
	}
}

// P8.2: each byte counts: what is read has just these bytes.
func TestReadEntryEachByte(t *testing.T) {
	for _, e := range []api.Entry{nothing(), something(), {Client: 7, Stamp: api.MaxWide - 1, Time: 300, Digest: hash(255)}} {
		b, _ := otherEntry(e)
		entries.eachByte(t, b)
	}
}

// P1: sums don't wrap into what is right.
func TestEntryNoWrap(t *testing.T) {
	e := something()
	e.Client = math.MaxInt
	entries.refused(t, "the greatest client", e, api.ErrField)
	// Client + 1 of the greatest number that can be written.
	b := "\x0b\xff\xff\xff\xff\xff\xff\xff\xff\x3f\x05\x07\x20" + strings.Repeat("d", 32)
	entries.nothing(t, "the greatest client", []byte(b))
}
