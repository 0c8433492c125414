package mac

import (
	"bytes"
	"math"
	"slices"
	"testing"

	"stanchion/api"
)

var doer = api.Id{Role: api.Doer, N: 1}

// checkLetter: what Seal answers of these is as the words say: these are the tags, right or bad.
func checkLetter(t *testing.T, secret []byte, from api.Id, role, count int, body []byte, bad ...int) {
	t.Helper()
	l := Seal(secret, from, role, count, body, bad...)
	if l.From != from || l.Role != role || !bytes.Equal(l.Body, body) {
		t.Errorf("from %v to %d, %d bytes: from %v to %d, %d bytes", from, role, len(body), l.From, l.Role, len(l.Body))
	}
	if len(l.Tags) != max(0, min(count, 64)) {
		t.Fatalf("%d tags for a count of %d", len(l.Tags), count)
	}
	for n, tag := range l.Tags {
		want := otherTag(secret, from, api.Id{Role: role, N: n}, body)
		if slices.Contains(bad, n) {
			for i := range want {
				want[i] = ^want[i]
			}
		}
		if !bytes.Equal(tag, want) {
			t.Errorf("count %d, bad %v, number %d: %x, not %x", count, bad, n, tag, want)
		}
	}
}

// P3.2: none, if count is below 1; at most 64.
func TestSealCounts(t *testing.T) {
	for _, count := range []int{math.MinInt, -64, -1, 0, 1, 2, 4, 7, 63, 64, 65, 128, api.MaxNum, math.MaxInt} {
		checkLetter(t, []byte("s"), doer, api.Orderer, count, []byte("body"))
		checkLetter(t, []byte("s"), doer, api.Orderer, count, []byte("body"), 0, 2, 63, 64)
	}
}

// P3.2: bad numbers in any order, more than once, and such as are no reader's.
func TestSealBad(t *testing.T) {
	all := make([]int, 64)
	for i := range all {
		all[i] = i
	}
	for _, bad := range [][]int{
		nil, {}, {0}, {2}, {3}, {0, 1, 2, 3}, {3, 1}, {1, 1}, {2, 2, 2, 2}, {2, 0, 2},
		{4}, {-1}, {63}, {64}, {math.MinInt, math.MaxInt}, {-1, 2, 99}, {256, 258, 1 << 32, 1<<32 + 1}, all,
	} {
		checkLetter(t, []byte("s"), doer, api.Orderer, 4, []byte("body"), bad...)
		checkLetter(t, noise(64), doer, api.Peer, 99, []byte("body"), bad...)
	}
}

// P3.2: any arguments: secrets, Ids and roles that can't be, bodies of all sizes.
func TestSealAny(t *testing.T) {
	for _, secret := range secrets() {
		for _, from := range slices.Concat(writable, unwritable) {
			for _, role := range []int{math.MinInt, -1, 0, 1, 2, 3, 4, 5, api.MaxNum - 1, api.MaxNum, math.MaxInt} {
				checkLetter(t, secret, from, role, 2, []byte("body"), 1)
			}
		}
	}
	for _, n := range []int{0, 1, 127, 128, 1000, api.MaxField - 1, api.MaxField} {
		checkLetter(t, []byte("s"), doer, api.Keeper, 3, noise(n), 1)
	}
}

// P3.2: a body that is too long goes whole, with tags of no bytes, the bad ones too.
func TestSealLongBody(t *testing.T) {
	for _, n := range []int{api.MaxField + 1, 1 << 20} {
		checkLetter(t, []byte("s"), doer, api.Keeper, 3, noise(n), 1)
		for i, tag := range Seal([]byte("s"), doer, api.Keeper, 3, noise(n), 1).Tags {
			if len(tag) != 0 {
				t.Errorf("number %d: %x", i, tag)
			}
		}
	}
}

// P3.2: each reader opens the letter, but those whose tag is bad.
func TestOpenSealed(t *testing.T) {
	for _, body := range [][]byte{nil, []byte("body"), noise(api.MaxField)} {
		l := Seal([]byte("s"), doer, api.Orderer, 4, body, 2)
		for _, n := range []int{math.MinInt, -1, 0, 1, 2, 3, 4, 5, 64, math.MaxInt} {
			if got := Open([]byte("s"), api.Id{Role: api.Orderer, N: n}, l); got != (n == 0 || n == 1 || n == 3) {
				t.Errorf("%d bytes, number %d: %v", len(body), n, got)
			}
			for _, role := range []int{math.MinInt, -1, 0, api.Keeper, api.Doer, api.Peer, math.MaxInt} {
				if Open([]byte("s"), api.Id{Role: role, N: n}, l) {
					t.Errorf("role %d, number %d", role, n)
				}
			}
		}
	}
}

// P3.2: all there can be of a role, with a secret of any size.
func TestOpenAllNumbers(t *testing.T) {
	for _, secret := range secrets() {
		l := Seal(secret, doer, api.Peer, 64, []byte("body"), 5, 63)
		for n := range 65 {
			if got := Open(secret, api.Id{Role: api.Peer, N: n}, l); got != (n < 63 && n != 5) {
				t.Errorf("a secret of %d bytes, number %d: %v", len(secret), n, got)
			}
		}
	}
}

// P3.2: who changes anything of it, or has another secret, isn't believed.
func TestOpenRefuses(t *testing.T) {
	me := api.Id{Role: api.Orderer, N: 1}
	sealed := func() api.Letter { return Seal([]byte("s"), doer, api.Orderer, 4, []byte("body")) }
	for name, change := range map[string]func(l *api.Letter){
		"nothing at all":      func(l *api.Letter) { *l = api.Letter{} },
		"no tags":             func(l *api.Letter) { l.Tags = nil },
		"too few tags":        func(l *api.Letter) { l.Tags = l.Tags[:1] },
		"tags in other order": func(l *api.Letter) { slices.Reverse(l.Tags) },
		"another's tag":       func(l *api.Letter) { l.Tags[1] = l.Tags[0] },
		"tag of no bytes":     func(l *api.Letter) { l.Tags[1] = nil },
		"shorter tag":         func(l *api.Letter) { l.Tags[1] = l.Tags[1][:15] },
		"tag's end":           func(l *api.Letter) { l.Tags[1] = l.Tags[1][1:] },
		"longer tag":          func(l *api.Letter) { l.Tags[1] = append(l.Tags[1], 0) },
		"whole HMAC": func(l *api.Letter) {
			ids, _ := otherNums(doer.Role, doer.N, me.Role)
			l.Tags[1] = otherHmac(otherKey([]byte("s"), doer, me), otherJoin(ids, l.Body))
		},
		"laid over":       func(l *api.Letter) { layOver(l.Tags[1], 255) },
		"other body":      func(l *api.Letter) { l.Body[0] ^= 1 },
		"no body":         func(l *api.Letter) { l.Body = nil },
		"shorter body":    func(l *api.Letter) { l.Body = l.Body[:3] },
		"longer body":     func(l *api.Letter) { l.Body = append(l.Body, 0) },
		"other sender":    func(l *api.Letter) { l.From.N = 0 },
		"other role":      func(l *api.Letter) { l.From.Role = api.Keeper },
		"from its reader": func(l *api.Letter) { l.From = me },
		"to others":       func(l *api.Letter) { l.Role = api.Doer },
		"sender below 0":  func(l *api.Letter) { l.From.N = -1 },
	} {
		l := sealed()
		change(&l)
		if Open([]byte("s"), me, l) {
			t.Errorf("%s: open", name)
		}
	}
	for _, secret := range []string{"", "t", "ss", "s\x00"} {
		if Open([]byte(secret), me, sealed()) {
			t.Errorf("open by the secret %q", secret)
		}
	}
	if !Open([]byte("s"), me, sealed()) {
		t.Error("as it was, it isn't open")
	}
}

// P3.2: each bit of a tag counts.
func TestOpenEachBit(t *testing.T) {
	me := api.Id{Role: api.Orderer, N: 1}
	l := Seal([]byte("s"), doer, api.Orderer, 2, []byte("body"))
	for i := range 128 {
		l.Tags[1][i/8] ^= 1 << (i % 8)
		if Open([]byte("s"), me, l) {
			t.Errorf("open with another bit %d", i)
		}
		l.Tags[1][i/8] ^= 1 << (i % 8)
	}
	for i := range 128 {
		l.Tags[0][i/8] ^= 1 << (i % 8)
		if !Open([]byte("s"), me, l) {
			t.Errorf("bit %d of another's tag closes it", i)
		}
	}
}

// P3.2: a letter with more tags than Seal makes is judged by the reader's own.
func TestOpenManyTags(t *testing.T) {
	l := api.Letter{From: doer, Role: api.Peer, Body: []byte("body"), Tags: make([][]byte, 100)}
	l.Tags[70] = Tag([]byte("s"), doer, api.Id{Role: api.Peer, N: 70}, l.Body)
	for n := range 101 {
		if got := Open([]byte("s"), api.Id{Role: api.Peer, N: n}, l); got != (n == 70) {
			t.Errorf("number %d: %v", n, got)
		}
	}
}

// P3.2: a body that is too long has no tag of 16 bytes, so nothing opens its letter.
func TestOpenLongBody(t *testing.T) {
	l := Seal([]byte("s"), doer, api.Orderer, 2, noise(api.MaxField+1))
	for _, tag := range [][]byte{l.Tags[0], nil, {}, make([]byte, 16), otherHmac(nil, nil)[:16]} {
		l.Tags[0] = tag
		if Open([]byte("s"), api.Id{Role: api.Orderer}, l) {
			t.Errorf("open by the tag %x", tag)
		}
	}
}

// P3.2: where a number can't be written there is a tag all the same, and it is held against the letter's.
func TestOpenUnwritable(t *testing.T) {
	for _, from := range unwritable {
		l := Seal([]byte("s"), from, api.Orderer, 2, []byte("body"), 1)
		if !Open([]byte("s"), api.Id{Role: api.Orderer}, l) || Open([]byte("s"), api.Id{Role: api.Orderer, N: 1}, l) {
			t.Errorf("from %v", from)
		}
	}
	for _, role := range []int{math.MinInt, -1, api.MaxNum, math.MaxInt} {
		l := Seal([]byte("s"), doer, role, 2, []byte("body"), 1)
		if !Open([]byte("s"), api.Id{Role: role}, l) || Open([]byte("s"), api.Id{Role: role, N: 1}, l) {
			t.Errorf("to %d", role)
		}
	}
}
