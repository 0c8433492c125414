package mac

import (
	"bytes"
	"slices"
	"testing"

	"stanchion/api"
)

// roomy: the bytes s, with other bytes behind their length in their memory; and all that memory.
func roomy(s string) (b, all []byte) {
	all = append([]byte(s), "behind the length"...)
	return all[:len(s)], all
}

// spoil: all that b's memory holds is another, spare room too.
func spoil(b []byte) {
	b = b[:cap(b)]
	for i := range b {
		b[i] ^= 0x55
	}
}

// calls: of each function that answers bytes, one of two arguments.
var calls = map[string]func(a, b []byte) []byte{
	"Hmac":        Hmac,
	"Key":         func(a, _ []byte) []byte { return Key(a, writable[0], writable[3]) },
	"Key, no key": func(a, _ []byte) []byte { return Key(a, writable[0], unwritable[0]) },
	"Tag":         func(a, b []byte) []byte { return Tag(a, writable[0], writable[3], b) },
	"Seal's body": func(a, b []byte) []byte { return Seal(a, writable[0], api.Doer, 3, b, 1).Body },
	"Seal's tag":  func(a, b []byte) []byte { return Seal(a, writable[0], api.Doer, 3, b, 1).Tags[2] },
	"Seal's bad":  func(a, b []byte) []byte { return Seal(a, writable[0], api.Doer, 3, b, 1).Tags[1] },
}

// P3.3: what is handed in is as it was, and what was answered doesn't hang on it.
func TestMemory(t *testing.T) {
	for _, texts := range [][2]string{{"", ""}, {"s", "body"}, {string(noise(64)), string(noise(64))}, {string(noise(65)), string(noise(1000))}} {
		for name, call := range calls {
			a, allA := roomy(texts[0])
			b, allB := roomy(texts[1])
			wasA, wasB := bytes.Clone(allA), bytes.Clone(allB)
			got := call(a, b)
			want := bytes.Clone(got)
			if !bytes.Equal(allA, wasA) || !bytes.Equal(allB, wasB) {
				t.Errorf("%s changed what was handed in", name)
			}
			spoil(allA)
			spoil(allB)
			if !bytes.Equal(got, want) {
				t.Errorf("%s hangs on what was handed in", name)
			}
			copy(allA, wasA)
			copy(allB, wasB)
			spoil(got)
			if !bytes.Equal(allA, wasA) || !bytes.Equal(allB, wasB) {
				t.Errorf("%s: its answer is what was handed in", name)
			}
		}
	}
}

// P3.3, P2: two answers have nothing in common, and hang on the arguments alone.
func TestAnswersApart(t *testing.T) {
	for name, call := range calls {
		first := call([]byte("s"), []byte("body"))
		was := bytes.Clone(first)
		second := call([]byte("s"), []byte("body"))
		spoil(first)
		_ = append(first, "more and more and more"...)
		if third := call([]byte("s"), []byte("body")); !bytes.Equal(second, was) || !bytes.Equal(third, was) {
			t.Errorf("%s: %x, then %x, then %x", name, was, second, third)
		}
	}
}

// P3.3: one memory may be handed in twice.
func TestSameMemory(t *testing.T) {
	for name, call := range calls {
		for _, n := range []int{0, 1, 32, 65} {
			b := noise(n)
			if !bytes.Equal(call(b, b), call(noise(n), noise(n))) || !bytes.Equal(b, noise(n)) {
				t.Errorf("%s, %d bytes", name, n)
			}
		}
	}
}

// P3.3, rule 5: no two lists of one letter share memory, spare room neither.
func TestLetterApart(t *testing.T) {
	sealed := func() api.Letter { return Seal([]byte("s"), doer, api.Orderer, 5, []byte("body"), 1, 3) }
	lists := func(l api.Letter) [][]byte { return append(slices.Clone(l.Tags), l.Body) }
	want := lists(sealed())
	for i := range want {
		got := lists(sealed())
		spoil(got[i])
		_ = append(got[i], "more and more and more"...)
		for k := range got {
			if k != i && !bytes.Equal(got[k], want[k]) {
				t.Errorf("list %d hangs on %d", k, i)
			}
		}
	}
	l := sealed()
	for i, room := range l.Tags[len(l.Tags):cap(l.Tags)] {
		if len(room) != 0 {
			t.Errorf("spare tag %d: %x", i, room)
		}
	}
}

// P3.3, rule 5: the half of the HMAC that a tag leaves out isn't in its spare room.
func TestTagSpareRoom(t *testing.T) {
	from, to := writable[0], writable[3]
	ids, _ := otherNums(from.Role, from.N, to.Role)
	whole := otherHmac(otherKey([]byte("s"), from, to), otherJoin(ids, []byte("body")))
	for _, tag := range [][]byte{Tag([]byte("s"), from, to, []byte("body")), Seal([]byte("s"), from, to.Role, 1, []byte("body")).Tags[0]} {
		if room := tag[16:cap(tag)]; len(room) > 0 && bytes.HasPrefix(whole[16:], room) {
			t.Errorf("spare room %x", room)
		}
	}
}

// P3.3: the numbers that aren't to read it are as they were.
func TestSealNumbers(t *testing.T) {
	all := []int{3, 1, 1, -1, 99, 0, 2}
	was := slices.Clone(all)
	Seal([]byte("s"), doer, api.Orderer, 4, []byte("body"), all[:5]...)
	if !slices.Equal(all, was) {
		t.Error(all)
	}
}

// P3.3: a letter that is read is as it was.
func TestOpenMemory(t *testing.T) {
	for _, n := range []int{0, 1, 2} {
		l := Seal([]byte("s"), doer, api.Orderer, 2, []byte("body"), 1)
		secret, allSecret := roomy("s")
		body, allBody := roomy("body")
		var alls [][]byte
		l.Body = body
		for i, tag := range l.Tags {
			b, all := roomy(string(tag))
			l.Tags[i], alls = b, append(alls, all)
		}
		alls = append(alls, allSecret, allBody)
		var were [][]byte
		for _, all := range alls {
			were = append(were, bytes.Clone(all))
		}
		if got := Open(secret, api.Id{Role: api.Orderer, N: n}, l); got != (n == 0) {
			t.Errorf("number %d: %v", n, got)
		}
		for i := range alls {
			if !bytes.Equal(alls[i], were[i]) {
				t.Errorf("number %d changed list %d", n, i)
			}
		}
		if len(l.Tags) != 2 || l.From != doer || l.Role != api.Orderer || string(l.Body) != "body" {
			t.Errorf("number %d changed the letter", n)
		}
	}
}
