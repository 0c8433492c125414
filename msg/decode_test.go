package msg

import (
	"bytes"
	"fmt"
	"math/rand"
	"slices"
	"strings"
	"testing"

	"stanchion/api"
)

// all: messages of all kinds, with little and with much in them.
func all() []api.Msg {
	var list []api.Msg
	for kind := 1; kind <= 14; kind++ {
		list = append(list, full(kind), leastOf(kind))
	}
	return list
}

// P8.2: what begins like a message, or has one in it, isn't it.
func TestDecodeMoreAndLess(t *testing.T) {
	for _, m := range all() {
		b, _ := otherMsg(m)
		messages.alone(t, b)
		for _, more := range []string{"\x01", "\x80", "\x01\x0d"} {
			messages.nothing(t, "more behind it", append(bytes.Clone(b), more...))
			messages.nothing(t, "more ahead of it", append([]byte(more), b...))
		}
		messages.nothing(t, "in a field", otherJoin(b))
	}
}

// P8.2: a field that is there twice, or isn't, or in another's place.
func TestDecodeFields(t *testing.T) {
	for kind := range has {
		fields, _ := otherFields(full(kind))
		for i := range fields {
			messages.nothing(t, "a field less", otherJoin(slices.Delete(slices.Clone(fields), i, i+1)...))
			for _, more := range [][]byte{fields[i], {}, {0}} {
				list := slices.Insert(slices.Clone(fields), i, more)
				if !bytes.Equal(list[i], list[i+1]) || i > 0 {
					messages.nothing(t, "a field more", otherJoin(list...))
				}
			}
			if i > 0 && fields[i] != nil {
				list := slices.Clone(fields)
				list[i-1], list[i] = list[i], list[i-1]
				messages.whole(t, otherJoin(list...))
			}
		}
	}
	messages.nothing(t, "nil", nil)
	messages.nothing(t, "empty", []byte{})
}

// P8.2: in each field's place, bytes that are no field of that kind.
func TestDecodeWrongFields(t *testing.T) {
	wrong := []string{"", "\x01\x01", "\x80", "\x80\x00", "\xac\x82\x00", "\x80\x80\x80\x80\x80\x20", "\xff\xff\xff\xff\xff\xff\xff\xff\x3f", "\xff\xff\xff\xff\xff\xff\xff\xff\x40", "\x00\x01\x02"}
	for kind := range has {
		for i := range len(has[kind]) + 1 {
			for _, b := range wrong {
				fields, _ := otherFields(full(kind))
				fields[i] = []byte(b)
				// Data may be any bytes, and lists none.
				if i == 0 || has[kind][i-1] != 'a' && (b != "" || has[kind][i-1] != 'p' && has[kind][i-1] != 'n') {
					messages.nothing(t, fmt.Sprintf("kind %d, field %d", kind, i), otherJoin(fields...))
				} else {
					messages.whole(t, otherJoin(fields...))
				}
			}
		}
	}
}

// fits: are the fields of full, for the one, right ones for the other?
func fits(one, other string) bool {
	if len(one) != len(other) || other == "" {
		return false
	}
	for i := range one {
		number := strings.IndexByte("vsct", one[i]) >= 0
		switch other[i] {
		case 'a':
		case 'c':
			// Seq of full is no client.
			if !number || one[i] == 's' {
				return false
			}
		case 'v', 's', 't':
			if !number {
				return false
			}
		default:
			if one[i] != other[i] {
				return false
			}
		}
	}
	return true
}

// P8.2: the same fields under another kind: a message of that, if it has such fields, or nothing.
func TestDecodeOtherKinds(t *testing.T) {
	for kind := range has {
		for _, other := range append([]int{1, 2, 3, 4, 5, 6, 7, 8, 9, 10, 11, 12, 13, 14}, noKinds...) {
			fields, _ := otherFields(full(kind))
			b, ok := otherNums(other)
			if !ok {
				continue
			}
			fields[0] = b
			if messages.whole(t, otherJoin(fields...)) != fits(has[kind], has[other]) {
				t.Errorf("the fields of %d under %d", kind, other)
			}
		}
	}
}

// P8.2: a list in a list is packed in just one way too.
func TestDecodeWrongLists(t *testing.T) {
	l := "\x06\x03\x01\x00\x01\x00\x00"
	p := "\x0a\x02\x00\x00\x05\x03\x00\x00\x00\x00\x00"
	change := func(proof, proven string) []byte {
		return otherJoin([]byte{api.MChange}, []byte{1}, []byte{1}, []byte(proof), []byte(proven))
	}
	for _, x := range []struct {
		proof, proven string
		good          bool
	}{
		{"", "", true},
		{l, p, true},
		{l + l, p + p, true},
		{"\x00", "", false},
		{l + "\x00", "", false},
		{l[:5], "", false},
		{"\x86\x00" + l[1:], "", false},
		{"\x06\x03\x01\x00\x00\x00\x00", "", false},
		{"\x05\x03\x01\x00\x01\x00", "", false},
		{"\x07\x03\x01\x00\x01\x00\x00\x00", "", false},
		{p, "", false},
		{"", l, false},
		{"", "\x00", false},
		{"", p + "\x00", false},
		{"", p[:9], false},
		{"", "\x8a\x00" + p[1:], false},
		{"", "\x09\x01\x00\x05\x03\x00\x00\x00\x00\x00", false}, // a number too few
		{"", "\x0b\x03\x00\x00\x00\x05\x03\x00\x00\x00\x00\x00", false}, // one too many
		{"", "\x0b\x03\x80\x00\x00\x05\x03\x00\x00\x00\x00\x00", false}, // one in another way
		{"", "\x0a\x02\x00\x00\x05\x03\x00\x01\x00\x00\x00", false},     // of nothing, a stamp
		{"", "\x09\x02\x00\x00\x05\x03\x00\x00\x00\x00", false},         // no votes
		{"", "\x0b\x02\x00\x00\x05\x03\x00\x00\x00\x00\x00\x00", false}, // a field too many
		{"", "\x0b\x02\x00\x00\x05\x03\x00\x00\x00\x00\x01\x00", false}, // a vote of no bytes
	} {
		b := change(x.proof, x.proven)
		if messages.whole(t, b) != x.good {
			t.Errorf("%q: %v", b, !x.good)
		}
	}
}

// P8.2: each byte counts: what is read has just these bytes.
func TestDecodeEachByte(t *testing.T) {
	for _, m := range all() {
		b, _ := otherMsg(m)
		messages.eachByte(t, b)
		for i := range b {
			for _, c := range []byte{0, 1, 128} {
				messages.whole(t, slices.Insert(slices.Clone(b), i, c))
			}
			messages.whole(t, slices.Delete(slices.Clone(b), i, i+1))
		}
	}
}

// P1, P8.2: bytes from nowhere.
func TestReadNoise(t *testing.T) {
	r := rand.New(rand.NewSource(8))
	some := []byte{0, 1, 2, 3, 4, 5, 6, 13, 32, 128, 255}
	for range 100000 {
		b := make([]byte, r.Intn(24))
		for i := range b {
			b[i] = some[r.Intn(len(some))]
		}
		messages.whole(t, b)
		letters.whole(t, b)
		entries.whole(t, b)
	}
}

// P8.2: lists of fields from nowhere, of which some are of a message.
func TestReadNoiseOfFields(t *testing.T) {
	r := rand.New(rand.NewSource(9))
	e, _ := otherEntry(something())
	none, _ := otherEntry(nothing())
	l, _ := otherLetter(letter())
	pool := [][]byte{nil, {0}, {1}, {7}, {8}, {1, 0, 1}, {128, 1}, hash('h'), hash(0)[1:], e, none, l, otherJoin(l, l), otherJoin(otherJoin([]byte{1, 1}, none, otherJoin(l)))}
	good := map[int]int{}
	for range 100000 {
		fields := [][]byte{{byte(r.Intn(16))}}
		for range r.Intn(5) {
			fields = append(fields, pool[r.Intn(len(pool))])
		}
		b := otherJoin(fields...)
		if messages.whole(t, b) {
			good[int(fields[0][0])]++
		}
		letters.whole(t, otherJoin(fields[1:]...))
		entries.whole(t, otherJoin(fields[1:]...))
	}
	for kind := range has {
		if good[kind] == 0 {
			t.Errorf("no messages of kind %d", kind)
		}
	}
}

// P1: great arguments end soon.
func TestGreat(t *testing.T) {
	for _, b := range [][]byte{make([]byte, 1<<24), bytes.Repeat([]byte{255}, 1<<24), bytes.Repeat([]byte("\x80\x80\x04"), 1<<23), otherJoin([]byte{api.MState}, []byte{1}, make([]byte, 1<<24)), otherJoin([]byte{api.MView}, []byte{1}, make([]byte, api.MaxField))} {
		messages.nothing(t, "great", b)
		letters.nothing(t, "great", b)
		entries.nothing(t, "great", b)
	}
	wide := api.Msg{Kind: api.MView, Proof: make([]api.Letter, 1<<20)}
	messages.justRefused(t, "letters", wide)
	messages.justRefused(t, "proven", api.Msg{Kind: api.MChange, Proven: make([]api.Proven, 1<<20)})
	letters.justRefused(t, "tags", api.Letter{From: api.Id{Role: 1}, Role: 1, Tags: make([][]byte, 1<<20)})
}
