package msg

import (
	"bytes"
	"math/rand"
	"strings"
	"testing"

	"stanchion/api"
)

// chance is how often something is as no right message has it: once in so many.
const chance = 60

// model makes messages, right and wrong, and knows of each what it is: it counts what is wrong as it goes.
type model struct {
	*rand.Rand
	wrong int
}

// pick: one of these; or, seldom, one of those.
func (r *model) pick(right, wrong []int) int {
	if r.Intn(chance) == 0 {
		r.wrong++
		return wrong[r.Intn(len(wrong))]
	}
	return right[r.Intn(len(right))]
}

// bytes: so many as it picks.
func (r *model) bytes(right, wrong []int) []byte {
	b := make([]byte, r.pick(right, wrong))
	r.Read(b)
	return b
}

func (r *model) wide() int { return r.pick(wide, far) }

func (r *model) role() int { return r.pick([]int{1, 2, 3, 4}, []int{-1, 0, 5, 6, 256 + 1}) }

func (r *model) client() int { return r.pick([]int{0, 1, 2, 6, 7}, []int{-1, 8, 9, 1 << 32}) }

func (r *model) digest() []byte { return r.bytes([]int{32}, []int{0, 1, 31, 33, 64}) }

func (r *model) entry() api.Entry {
	if r.Intn(3) == 0 {
		return api.Entry{Client: -1, Stamp: r.pick([]int{0}, []int{-1, 1, 1 << 40}), Time: r.wide(), Digest: r.bytes([]int{0}, []int{1, 32})}
	}
	return api.Entry{Client: r.pick([]int{0, 1, 2, 6, 7}, []int{-2, 8, 9, 1 << 32}), Stamp: r.wide(), Time: r.wide(), Digest: r.digest()}
}

func (r *model) letter() api.Letter {
	l := api.Letter{From: api.Id{Role: r.role(), N: r.pick([]int{0, 1, 62, 63}, []int{-1, 64, 65, 1 << 32})}, Role: r.role()}
	l.Body = r.bytes([]int{0, 1, 127, 128, 900}, []int{api.MaxField + 1})
	for range r.pick([]int{0, 1, 2, 3}, []int{65, 66}) {
		l.Tags = append(l.Tags, r.bytes([]int{0, 1, 15, 16}, []int{17, 32}))
	}
	return l
}

func (r *model) letters() []api.Letter {
	var list []api.Letter
	for range r.pick([]int{0, 1, 2, 3}, []int{65, 66}) {
		list = append(list, r.letter())
	}
	return list
}

func (r *model) proven() []api.Proven {
	var list []api.Proven
	for range r.pick([]int{0, 1, 2, 8}, []int{9, 16}) {
		list = append(list, api.Proven{Seq: r.wide(), View: r.wide(), Entry: r.entry(), Votes: r.letters()})
	}
	return list
}

// field: the message has something in this field.
func (r *model) field(m *api.Msg, field rune) {
	switch field {
	case 'v':
		m.View = r.wide()
	case 's':
		m.Seq = r.wide()
	case 'c':
		m.Client = r.client()
	case 't':
		m.Stamp = r.wide()
	case 'e':
		m.Entry = r.entry()
	case 'g':
		m.Digest = r.digest()
	case 'a':
		if m.Kind == api.MRequest || m.Kind == api.MBody {
			m.Data = r.bytes([]int{0, 1, 1023, 1024}, []int{1025, api.MaxField})
		} else {
			m.Data = r.bytes([]int{0, 1, 1025, 3000}, []int{api.MaxField + 1})
		}
	case 'p':
		m.Proof = r.letters()
	case 'n':
		m.Proven = r.proven()
	}
}

// message: any, and the error that it has.
func (r *model) message() (api.Msg, api.Errno) {
	m := api.Msg{Kind: 1 + r.Intn(14)}
	r.wrong = 0
	for _, field := range has[m.Kind] {
		r.field(&m, field)
	}
	for _, field := range "vsctegapn" {
		if !strings.ContainsRune(has[m.Kind], field) && r.Intn(chance) == 0 {
			fill(&m, field)
			r.wrong++
		}
	}
	switch {
	case r.Intn(chance) == 0:
		m.Kind = noKinds[r.Intn(len(noKinds))]
		return m, api.ErrKind
	case r.wrong > 0:
		return m, api.ErrField
	}
	return m, api.OK
}

// P8.1, P8.2, P2: messages of all kinds, right and wrong, are as the model knows them.
func TestModel(t *testing.T) {
	r := &model{Rand: rand.New(rand.NewSource(10))}
	count := map[api.Errno]int{}
	for range 12000 {
		m, want := r.message()
		count[want]++
		other, ok := otherMsg(m)
		b, e := Encode(m)
		if e != want || want == api.OK && !bytes.Equal(b, other) || want != api.OK && len(b) != 0 {
			t.Fatalf("%s: %d, not %d", short(text(m)), e, want)
		}
		if !ok {
			continue
		}
		back, e := Decode(other)
		if want == api.OK && (e != api.OK || text(back) != text(m)) {
			t.Fatalf("%s is read as %s, %d", short(text(m)), short(text(back)), e)
		}
		// What stands in a field of another kind, bytes don't tell.
		if b, x := Encode(back); e == api.OK && (x != api.OK || !bytes.Equal(b, other)) || e != api.OK && (e != api.ErrForm || text(back) != text(api.Msg{})) {
			t.Fatalf("%s is read as %s, %d, and packed again, %d", short(text(m)), short(text(back)), e, x)
		}
	}
	if count[api.OK] < 3000 || count[api.ErrField] < 1000 || count[api.ErrKind] < 100 {
		t.Error(count)
	}
}

// P1: a panic that is no fault doesn't come out either.
func TestCaught(t *testing.T) {
	for _, x := range []any{"text", 7, struct{}{}, []int{1}} {
		if n, e := caught(func() int { panic(x) }); n != 0 || e == api.OK {
			t.Error(n, e)
		}
	}
	if n, e := caught(func() int { return []int{}[len(has)] }); n != 0 || e == api.OK {
		t.Error(n, e)
	}
	if n, e := caught(func() int { panic(api.ErrLong) }); n != 0 || e != api.ErrLong {
		t.Error(n, e)
	}
	if n, e := caught(func() int { return 3 }); n != 3 || e != api.OK {
		t.Error(n, e)
	}
}
