package msg

import (
	"bytes"
	"fmt"
	"strings"
	"testing"

	"stanchion/api"
)

// letterChange makes a letter another.
type letterChange struct {
	name   string
	change func(l *api.Letter)
}

// wrongLetters: changes after which a right letter isn't one.
func wrongLetters() []letterChange {
	var list []letterChange
	add := func(name string, change func(l *api.Letter)) { list = append(list, letterChange{name, change}) }
	for _, v := range append([]int{0, 5, 6}, farther...) {
		add(fmt.Sprint("From's Role ", v), func(l *api.Letter) { l.From.Role = v })
		add(fmt.Sprint("Role ", v), func(l *api.Letter) { l.Role = v })
	}
	for _, v := range farther {
		add(fmt.Sprint("From's N ", v), func(l *api.Letter) { l.From.N = v })
	}
	add("a byte too many", func(l *api.Letter) { l.Body = make([]byte, api.MaxField+1) })
	add("many bytes too many", func(l *api.Letter) { l.Body = make([]byte, 4*api.MaxField) })
	for _, n := range []int{65, 66, 128, 256, 1024, 1025, 1 << 17} {
		add(fmt.Sprint(n, " tags"), func(l *api.Letter) { l.Tags = make([][]byte, n) })
	}
	for _, n := range []int{17, 18, 32, 127, 128, 256, api.MaxField, api.MaxField + 1} {
		add(fmt.Sprintf("the first tag of %d bytes", n), func(l *api.Letter) { l.Tags[0] = make([]byte, n) })
		add(fmt.Sprintf("the last tag of %d bytes", n), func(l *api.Letter) { l.Tags[1] = make([]byte, n) })
	}
	add("zero", func(l *api.Letter) { *l = api.Letter{} })
	return list
}

// rightLetters: the edges of what a letter may be, but for a long Body.
func rightLetters() []api.Letter {
	list := []api.Letter{letter(), sized(0), {From: api.Id{Role: api.Keeper}, Role: api.Keeper, Body: []byte{}, Tags: [][]byte{}}}
	for from := api.Keeper; from <= api.Peer; from++ {
		for to := api.Keeper; to <= api.Peer; to++ {
			list = append(list, api.Letter{From: api.Id{Role: from, N: 2}, Role: to})
		}
	}
	for n := range 64 {
		list = append(list, api.Letter{From: api.Id{Role: api.Peer, N: n}, Role: api.Doer, Body: make([]byte, 3*n), Tags: make([][]byte, n+1)})
	}
	for n := range 17 {
		list = append(list, api.Letter{From: api.Id{Role: api.Orderer, N: 63}, Role: api.Doer, Tags: [][]byte{bytes.Repeat([]byte("t"), n), nil, make([]byte, n)}})
	}
	most := api.Letter{From: api.Id{Role: api.Peer, N: 63}, Role: api.Peer}
	for i := range 64 {
		most.Tags = append(most.Tags, bytes.Repeat([]byte{byte(i)}, 16))
	}
	return append(list, most)
}

// P8.1: bytes written out.
func TestPackLetterKnown(t *testing.T) {
	for _, x := range []struct {
		l    api.Letter
		want string
	}{
		{api.Letter{From: api.Id{Role: 1}, Role: 1}, "\x03\x01\x00\x01\x00\x00"},
		{letter(), "\x03\x03\x01\x02\x04body\x05\x03tag\x00"},
		{api.Letter{From: api.Id{Role: 4, N: 63}, Role: 3, Tags: [][]byte{nil, hash('t')[:16]}}, "\x03\x04\x3f\x03\x00\x12\x00\x10tttttttttttttttt"},
		{sized(200), "\x03\x01\x00\x04\xc8\x01" + strings.Repeat("b", 200) + "\x00"},
	} {
		if b, e := PackLetter(x.l); string(b) != x.want || e != api.OK {
			t.Errorf("%v: %q, %d", x.l, b, e)
		}
		if back, e := ReadLetter([]byte(x.want)); text(back) != text(x.l) || e != api.OK {
			t.Errorf("%q: %v, %d", x.want, back, e)
		}
	}
}

// P8.1, P8.2
func TestLettersTaken(t *testing.T) {
	for _, l := range rightLetters() {
		letters.taken(t, short(text(l)), l)
		for _, kind := range kindsWith('p') {
			m := full(kind)
			m.Proof = append(m.Proof, l)
			messages.taken(t, fmt.Sprint("kind ", kind), m)
		}
		m := full(api.MChange)
		m.Proven[0].Votes[1] = l
		m.Proven[1].Votes = []api.Letter{l}
		messages.taken(t, "vote", m)
	}
}

// P8.1, P8.2: a letter by itself may have a Body of MaxField bytes, and so more bytes than that.
func TestLongLetters(t *testing.T) {
	for _, n := range []int{1024, api.MaxField - 100, api.MaxField - 1, api.MaxField} {
		l := letter()
		l.Body = bytes.Repeat([]byte("b"), n)
		letters.taken(t, fmt.Sprint(n), l)
		l.Tags = rightLetters()[len(rightLetters())-1].Tags
		letters.taken(t, fmt.Sprint(n, " and all tags"), l)
	}
}

// P8.1, P8.2: in whatever it stands.
func TestLettersRefused(t *testing.T) {
	for _, c := range wrongLetters() {
		l := letter()
		c.change(&l)
		letters.refused(t, c.name, l, api.ErrField)
		for _, kind := range kindsWith('p') {
			m := full(kind)
			m.Proof = []api.Letter{letter(), l, letter()}
			messages.refused(t, fmt.Sprintf("%s in kind %d", c.name, kind), m, api.ErrField)
		}
		m := full(api.MChange)
		m.Proven[1].Votes = []api.Letter{letter(), l}
		messages.refused(t, c.name+" as a vote", m, api.ErrField)
	}
}

// P8.2
func TestReadLetterRefuses(t *testing.T) {
	for _, b := range []string{
		"",
		"\x00\x00\x00",                                           // no numbers
		"\x03\x01\x00\x01\x00",                                   // no tags
		"\x03\x01\x00\x01\x00\x00\x00",                           // a field too many
		"\x02\x01\x00\x00\x00",                                   // too few numbers
		"\x04\x01\x00\x01\x01\x00\x00",                           // too many
		"\x04\x81\x00\x00\x01\x00\x00",                           // a number in another way
		"\x83\x00\x01\x00\x01\x00\x00",                           // a count in another way
		"\x03\x01\x00\x01\x80\x00\x00",                           // likewise
		"\x03\x01\x00\x01\x00\x02\x80\x00",                       // likewise, of a tag
		"\x03\x01\x00\x01\x00\x01\x01",                           // a tag cut off
		"\x03\x01\x00\x01\x00\x02\x01",                           // the tags cut off
		"\x03\x00\x00\x01\x00\x00",                               // from no role
		"\x03\x05\x00\x01\x00\x00",                               // from no role
		"\x03\x01\x40\x01\x00\x00",                               // from no number
		"\x03\x01\x00\x00\x00\x00",                               // to no role
		"\x03\x01\x00\x05\x00\x00",                               // to no role
		"\x03\x01\x00\x01\x00\x12\x11" + strings.Repeat("t", 17), // a tag too long
		"\x03\x01\x00\x01\x00\x41" + strings.Repeat("\x00", 65),  // a tag too many
	} {
		letters.nothing(t, "wrong", []byte(b))
	}
	letters.nothing(t, "nil", nil)
	for _, l := range []api.Letter{letter(), sized(0), sized(300), rightLetters()[80]} {
		b, _ := otherLetter(l)
		letters.alone(t, b)
	}
}

// P8.2: each byte counts: what is read has just these bytes.
func TestReadLetterEachByte(t *testing.T) {
	for _, l := range []api.Letter{letter(), {From: api.Id{Role: 4, N: 63}, Role: 3, Tags: [][]byte{nil, hash('t')[:16], []byte("x")}}} {
		b, _ := otherLetter(l)
		letters.eachByte(t, b)
	}
}
