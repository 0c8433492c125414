package msg

import (
	"fmt"
	"math"
	"strings"
	"testing"

	"stanchion/api"
)

// known: of each kind the bytes of full, written out.
func known() map[int]string {
	g := "\x20" + strings.Repeat("g", 32)
	e := "\x25" + "\x03\x03\x05\x07\x20" + strings.Repeat("d", 32)
	l := "\x0f" + "\x03\x03\x01\x02" + "\x04body" + "\x05\x03tag\x00"
	proven := "\x4a" + "\x02\x05\x01" + e + "\x20" + l + l
	none := "\x0a" + "\x02\x00\x00" + "\x05\x03\x00\x00\x00\x00" + "\x00"
	return map[int]string{
		api.MRequest: "\x01\x01" + "\x01\x01" + "\x01\x06" + "\x02op",
		api.MAck:     "\x01\x02" + "\x01\x01" + "\x01\x06" + g,
		api.MPropose: "\x01\x03" + "\x01\x02" + "\x02\xac\x02" + e,
		api.MPrepare: "\x01\x04" + "\x01\x02" + "\x02\xac\x02" + e,
		api.MCommit:  "\x01\x05" + "\x01\x02" + "\x02\xac\x02" + e,
		api.MDecide:  "\x01\x06" + "\x02\xac\x02" + e,
		api.MFetch:   "\x01\x07" + g,
		api.MBody:    "\x01\x08" + "\x01\x01" + "\x01\x06" + "\x02op",
		api.MReply:   "\x01\x09" + "\x02\xac\x02" + "\x01\x01" + "\x01\x06" + "\x02op",
		api.MCheck:   "\x01\x0a" + "\x02\xac\x02" + g,
		api.MChange:  "\x01\x0b" + "\x01\x02" + "\x02\xac\x02" + "\x10" + l + "\x56" + proven + none,
		api.MView:    "\x01\x0c" + "\x01\x02" + "\x10" + l,
		api.MAsk:     "\x01\x0d" + "\x02\xac\x02",
		api.MState:   "\x01\x0e" + "\x02\xac\x02" + "\x02op",
	}
}

// P8.1, P8.2: bytes written out.
func TestKnown(t *testing.T) {
	for kind, want := range known() {
		if b, e := Encode(full(kind)); string(b) != want || e != api.OK {
			t.Errorf("kind %d: %q, %d", kind, b, e)
		}
		if m, e := Decode([]byte(want)); text(m) != text(full(kind)) || e != api.OK {
			t.Errorf("kind %d: %v, %d", kind, m, e)
		}
	}
	if b, e := Encode(api.Msg{Kind: api.MAsk, Seq: 3}); string(b) != "\x01\x0d\x01\x03" || e != api.OK {
		t.Errorf("the chapter's example: %q, %d", b, e)
	}
}

// leastOf: the right message of a kind that is zero as far as it may be.
func leastOf(kind int) api.Msg {
	m := api.Msg{Kind: kind}
	if strings.ContainsRune(has[kind], 'e') {
		m.Entry = nothing()
	}
	if strings.ContainsRune(has[kind], 'g') {
		m.Digest = hash(0)
	}
	return m
}

// P8.1, P8.2, rule 1
func TestFullAndLeast(t *testing.T) {
	for kind := range has {
		messages.taken(t, fmt.Sprint("full ", kind), full(kind))
		messages.taken(t, fmt.Sprint("least ", kind), leastOf(kind))
		m := leastOf(kind)
		m.Data, m.Proof, m.Proven = []byte{}, []api.Letter{}, []api.Proven{}
		if len(m.Digest) == 0 {
			m.Digest = []byte{}
		}
		if m.Entry.Client == 0 {
			m.Entry.Digest = []byte{}
		}
		messages.taken(t, fmt.Sprint("empty lists ", kind), m)
	}
}

// P8.1: ErrKind ahead of all else.
func TestNoKinds(t *testing.T) {
	for _, kind := range noKinds {
		long := full(api.MChange)
		long.Proof = []api.Letter{sized(api.MaxField)}
		for name, m := range map[string]api.Msg{"zero": {}, "full": full(api.MCommit), "a wrong view": {View: -1}, "wrong data": {Data: make([]byte, api.MaxField+1)}, "a wrong proof": {Proof: make([]api.Letter, 100)}, "a long proof": long} {
			m.Kind = kind
			messages.refused(t, fmt.Sprintf("kind %d, %s", kind, name), m, api.ErrKind)
		}
	}
}

// numbers: the fields of a message that are numbers, by has's letters.
var numbers = map[rune]func(m *api.Msg) *int{
	'v': func(m *api.Msg) *int { return &m.View },
	's': func(m *api.Msg) *int { return &m.Seq },
	'c': func(m *api.Msg) *int { return &m.Client },
	't': func(m *api.Msg) *int { return &m.Stamp },
}

// P8.1, P8.2
func TestNumbersOfMessages(t *testing.T) {
	for field, number := range numbers {
		right, wrong := wide, far
		if field == 'c' {
			right, wrong = []int{0, 1, 2, 3, 4, 5, 6, 7}, append([]int{8, 9, 10, 16}, farther...)
		}
		for _, kind := range kindsWith(field) {
			m := full(kind)
			for _, v := range right {
				*number(&m) = v
				messages.taken(t, fmt.Sprintf("kind %d, %c %d", kind, field, v), m)
			}
			for _, v := range wrong {
				*number(&m) = v
				messages.refused(t, fmt.Sprintf("kind %d, %c %d", kind, field, v), m, api.ErrField)
			}
		}
	}
}

// P8.1, P8.2: likewise of what is proven, whose numbers needn't be the message's.
func TestNumbersOfProven(t *testing.T) {
	for _, number := range []func(p *api.Proven) *int{
		func(p *api.Proven) *int { return &p.Seq },
		func(p *api.Proven) *int { return &p.View },
	} {
		for i := range 2 {
			m := full(api.MChange)
			for _, v := range wide {
				*number(&m.Proven[i]) = v
				messages.taken(t, fmt.Sprintf("proven %d: %d", i, v), m)
			}
			for _, v := range far {
				*number(&m.Proven[i]) = v
				messages.refused(t, fmt.Sprintf("proven %d: %d", i, v), m, api.ErrField)
			}
		}
	}
}

// P8.1: each field that its kind doesn't have must be zero, be it right or not.
func TestFieldsOfOtherKinds(t *testing.T) {
	for kind := range has {
		for _, field := range "vsctegapn" {
			if strings.ContainsRune(has[kind], field) {
				continue
			}
			for _, m := range []api.Msg{full(kind), leastOf(kind)} {
				fill(&m, field)
				messages.justRefused(t, fmt.Sprintf("kind %d with %c", kind, field), m)
			}
			for name, m := range others(field) {
				m.Kind = kind
				for _, has := range has[kind] {
					fill(&m, has)
				}
				messages.justRefused(t, fmt.Sprintf("kind %d with %c, %s", kind, field, name), m)
			}
		}
	}
}

// others: messages in which this field alone isn't zero.
func others(field rune) map[string]api.Msg {
	switch field {
	case 'e':
		return map[string]api.Msg{
			"nothing":            {Entry: nothing()},
			"Client":             {Entry: api.Entry{Client: 1}},
			"the least Client":   {Entry: api.Entry{Client: math.MinInt}},
			"Stamp":              {Entry: api.Entry{Stamp: 1}},
			"Stamp below 0":      {Entry: api.Entry{Stamp: -1}},
			"Time":               {Entry: api.Entry{Time: 1}},
			"Time below 0":       {Entry: api.Entry{Time: -2}},
			"Digest":             {Entry: api.Entry{Digest: hash(0)}},
			"Digest of one byte": {Entry: api.Entry{Digest: []byte{0}}},
			"those even out":     {Entry: api.Entry{Client: 1, Stamp: -1}},
			"Time and Digest":    {Entry: api.Entry{Time: -32, Digest: hash(0)}},
		}
	case 'g':
		return map[string]api.Msg{"one byte 0": {Digest: []byte{0}}, "33 bytes": {Digest: make([]byte, 33)}}
	case 'a':
		return map[string]api.Msg{"one byte 0": {Data: []byte{0}}, "too many bytes": {Data: make([]byte, api.MaxField+1)}}
	case 'p':
		return map[string]api.Msg{"one zero": {Proof: make([]api.Letter, 1)}, "too many": {Proof: make([]api.Letter, 65)}}
	case 'n':
		return map[string]api.Msg{"one zero": {Proven: make([]api.Proven, 1)}, "too many": {Proven: make([]api.Proven, 9)}}
	}
	list := map[string]api.Msg{}
	for _, v := range append([]int{1, 2, 7, 1 << 16, 1 << 32}, far...) {
		m := api.Msg{}
		*numbers[field](&m) = v
		list[fmt.Sprint(v)] = m
	}
	return list
}

// justRefused: x isn't right; no bytes could tell how.
func (f form[T]) justRefused(t *testing.T, name string, x T) {
	t.Helper()
	if b, e := f.pack(x); len(b) != 0 || e != api.ErrField {
		t.Errorf("%s: packed as %.80q, %d", name, b, e)
	}
}

// P8.1, P8.2
func TestDigests(t *testing.T) {
	for _, kind := range kindsWith('g') {
		m := full(kind)
		for _, c := range []byte{0, 1, 127, 128, 255} {
			m.Digest = hash(c)
			messages.taken(t, fmt.Sprintf("kind %d, digest of %d", kind, c), m)
		}
		for _, n := range []int{0, 1, 16, 31, 33, 64, 32 + 256, api.MaxField, api.MaxField + 1} {
			m.Digest = make([]byte, n)
			messages.refused(t, fmt.Sprintf("kind %d, digest of %d bytes", kind, n), m, api.ErrField)
		}
	}
}

// P8.1, P8.2: MRequest and MBody have at most MaxOp bytes, the others MaxField.
func TestData(t *testing.T) {
	for _, kind := range kindsWith('a') {
		most := api.MaxField
		if kind == api.MRequest || kind == api.MBody {
			most = api.MaxOp
		}
		m := full(kind)
		for _, n := range []int{0, 1, 127, 128, 1023, 1024, most - 1, most} {
			m.Data = []byte(strings.Repeat("a", n))
			messages.taken(t, fmt.Sprintf("kind %d, data of %d bytes", kind, n), m)
		}
		for _, n := range []int{most + 1, most + 2, 2 * most, api.MaxField + 1, 1 << 20} {
			m.Data = make([]byte, n)
			messages.refused(t, fmt.Sprintf("kind %d, data of %d bytes", kind, n), m, api.ErrField)
		}
	}
}

// several: n right letters that are short.
func several(n int) []api.Letter {
	var list []api.Letter
	for i := range n {
		list = append(list, api.Letter{From: api.Id{Role: api.Doer, N: i % 64}, Role: api.Orderer, Body: []byte{byte(i)}})
	}
	return list
}

// P8.1, P8.2: at most 64 letters, and at most 8 proven ones.
func TestCountsOfLists(t *testing.T) {
	for _, n := range []int{0, 1, 2, 7, 63, 64} {
		for _, kind := range kindsWith('p') {
			m := full(kind)
			m.Proof = several(n)
			messages.taken(t, fmt.Sprintf("kind %d, %d letters", kind, n), m)
		}
		m := full(api.MChange)
		m.Proven[0].Votes, m.Proven[1].Votes = several(n), several(64-n)
		messages.taken(t, fmt.Sprint(n, " votes"), m)
	}
	for _, n := range []int{65, 66, 128, 256, 320, 1024, 1025} {
		for _, kind := range kindsWith('p') {
			m := full(kind)
			m.Proof = several(n)
			messages.refused(t, fmt.Sprintf("kind %d, %d letters", kind, n), m, api.ErrField)
		}
		m := full(api.MChange)
		m.Proven[1].Votes = several(n)
		messages.refused(t, fmt.Sprint(n, " votes"), m, api.ErrField)
	}
	for _, n := range []int{0, 1, 2, 7, 8, 9, 10, 16, 64, 65, 256, 264, 1024, 1025} {
		m := full(api.MChange)
		m.Proven = nil
		for i := range n {
			m.Proven = append(m.Proven, api.Proven{Seq: i, View: 3 * i, Entry: nothing(), Votes: several(i % 3)})
		}
		if n <= 8 {
			messages.taken(t, fmt.Sprint(n, " proven"), m)
		} else {
			messages.refused(t, fmt.Sprint(n, " proven"), m, api.ErrField)
		}
	}
}

// changeWith: a message with these letters as its proof, and these as the votes of what is proven.
func changeWith(proof, votes []api.Letter) api.Msg {
	m := full(api.MChange)
	m.Proof = proof
	m.Proven = []api.Proven{{Entry: nothing(), Votes: votes}}
	return m
}

// P8.1, P8.2: ErrLong, if a field of a list would have more than MaxField bytes: a letter, all of them, something proven, all that is.
func TestLong(t *testing.T) {
	// With Bodies of so many bytes a list has just MaxField of them.
	const (
		inProof = api.MaxField - 8 - 3
		inVotes = inProof - 3 - 3 - 3 - 6 // what is proven stands around it
		eighth  = api.MaxField/8 - 7 - 2
		votes8  = eighth - 2 - 2 - 3 - 6
		small   = api.MaxField/64 - 7 - 2
	)
	many := func(n, size int) []api.Letter {
		var list []api.Letter
		for range n {
			list = append(list, sized(size))
		}
		return list
	}
	eight := func(size int) api.Msg {
		m := changeWith(nil, nil)
		p := m.Proven[0]
		m.Proven = nil
		for range 8 {
			p.Votes = []api.Letter{sized(size)}
			m.Proven = append(m.Proven, p)
		}
		return m
	}
	for name, m := range map[string]api.Msg{
		"one in the proof":  changeWith([]api.Letter{sized(inProof)}, nil),
		"one in a view":     {Kind: api.MView, Proof: []api.Letter{sized(inProof)}},
		"one in the votes":  changeWith(nil, []api.Letter{sized(inVotes)}),
		"one in both":       changeWith([]api.Letter{sized(inProof)}, []api.Letter{sized(inVotes)}),
		"eight":             changeWith(many(8, eighth), nil),
		"64":                changeWith(many(64, small), many(64, small-1)),
		"eight proven ones": eight(votes8),
	} {
		messages.taken(t, name, m)
	}
	for name, m := range map[string]api.Msg{
		"the proof":               changeWith([]api.Letter{sized(inProof + 1)}, nil),
		"a view's proof":          {Kind: api.MView, Proof: []api.Letter{sized(inProof + 1)}},
		"a letter, just not":      changeWith([]api.Letter{sized(api.MaxField - 8)}, nil),
		"a letter":                changeWith([]api.Letter{sized(api.MaxField - 7)}, nil),
		"a letter in a view":      {Kind: api.MView, Proof: []api.Letter{sized(api.MaxField)}},
		"the last letter":         changeWith([]api.Letter{letter(), letter(), sized(api.MaxField)}, nil),
		"all that is proven":      changeWith(nil, []api.Letter{sized(inVotes + 1)}),
		"what is proven":          changeWith(nil, []api.Letter{sized(inVotes + 4)}),
		"the votes":               changeWith(nil, []api.Letter{sized(inProof + 1)}),
		"a vote":                  changeWith(nil, []api.Letter{sized(api.MaxField)}),
		"eight":                   changeWith(many(8, eighth+1), nil),
		"64":                      changeWith(many(64, small+1), nil),
		"64 votes":                changeWith(nil, many(64, small)),
		"eight proven ones":       eight(votes8 + 1),
		"both":                    changeWith([]api.Letter{sized(api.MaxField)}, []api.Letter{sized(api.MaxField)}),
		"far too much everywhere": changeWith(many(64, api.MaxField), many(64, api.MaxField)),
	} {
		messages.refused(t, name, m, api.ErrLong)
	}
}

// P8.1: that the message isn't right comes ahead of what is too long, wherever either stands.
func TestFieldAheadOfLong(t *testing.T) {
	long := sized(api.MaxField)
	for name, change := range map[string]func(m *api.Msg){
		"a view":             func(m *api.Msg) { m.View = -1 },
		"a stamp":            func(m *api.Msg) { m.Stamp = 1 },
		"data":               func(m *api.Msg) { m.Data = []byte{0} },
		"an entry":           func(m *api.Msg) { m.Entry = nothing() },
		"a letter ahead":     func(m *api.Msg) { m.Proof[0].Role = 0 },
		"a letter behind":    func(m *api.Msg) { m.Proof[2].Role = 0 },
		"the long letter":    func(m *api.Msg) { m.Proof[1].Role = 0 },
		"an entry proven":    func(m *api.Msg) { m.Proven[0].Entry.Stamp = 1 },
		"a number proven":    func(m *api.Msg) { m.Proven[0].View = api.MaxWide },
		"a vote":             func(m *api.Msg) { m.Proven[0].Votes[1].From.N = 64 },
		"too many proven":    func(m *api.Msg) { m.Proven = make([]api.Proven, 9) },
		"something zero too": func(m *api.Msg) { m.Proven = append(m.Proven, api.Proven{}) },
	} {
		m := changeWith([]api.Letter{letter(), long, letter()}, []api.Letter{long, letter()})
		if _, e := Encode(m); e != api.ErrLong {
			t.Fatal(e)
		}
		change(&m)
		messages.refused(t, name, m, api.ErrField)
	}
}
