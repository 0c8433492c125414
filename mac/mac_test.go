package mac

import (
	"bytes"
	"crypto/hmac"
	"crypto/sha256"
	"encoding/binary"
	"encoding/hex"
	"math"
	"math/rand"
	"slices"
	"strings"
	"testing"

	"stanchion/api"
)

// noise: n bytes of all kinds, the same at each run.
func noise(n int) []byte {
	b := make([]byte, n)
	rand.New(rand.NewSource(int64(n))).Read(b)
	return b
}

// fromHex: the bytes of digits.
func fromHex(t *testing.T, digits string) []byte {
	t.Helper()
	b, err := hex.DecodeString(digits)
	if err != nil {
		t.Fatal(err)
	}
	return b
}

// otherHmac: another implementation's answer.
func otherHmac(key, b []byte) []byte {
	h := hmac.New(sha256.New, key)
	h.Write(b)
	return h.Sum(nil)
}

// otherNums: numbers' bytes, and whether all of them have some.
func otherNums(list ...int) ([]byte, bool) {
	var b []byte
	for _, v := range list {
		if v < 0 || v > 1<<62-1 {
			return nil, false
		}
		b = binary.AppendUvarint(b, uint64(v))
	}
	return b, true
}

// otherJoin: two fields, neither of which is too long, as a list.
func otherJoin(a, b []byte) []byte {
	list := binary.AppendUvarint(nil, uint64(len(a)))
	list = binary.AppendUvarint(append(list, a...), uint64(len(b)))
	return append(list, b...)
}

// otherKey: Key, as the chapter's words go, with the greater Id looked for; the secret isn't too long.
func otherKey(secret []byte, a, b api.Id) []byte {
	ids, ok := otherNums(a.Role, a.N, b.Role, b.N)
	if a.Role > b.Role || a.Role == b.Role && a.N > b.N {
		ids, ok = otherNums(b.Role, b.N, a.Role, a.N)
	}
	if !ok {
		return make([]byte, 32)
	}
	sum := sha256.Sum256(otherJoin(secret, ids))
	return sum[:]
}

// otherTag: Tag, as the chapter's words go.
func otherTag(secret []byte, from, to api.Id, body []byte) []byte {
	if len(body) > 65536 {
		return nil
	}
	ids, _ := otherNums(from.Role, from.N, to.Role)
	return otherHmac(otherKey(secret, from, to), otherJoin(ids, body))[:16]
}

// writable: Ids of which all numbers have bytes, the edges of these among them.
var writable = []api.Id{
	{Role: api.Keeper, N: 0}, {Role: api.Keeper, N: 1}, {Role: api.Keeper, N: 6},
	{Role: api.Orderer, N: 0}, {Role: api.Orderer, N: 1}, {Role: api.Orderer, N: 63},
	{Role: api.Doer, N: 0}, {Role: api.Doer, N: 127}, {Role: api.Doer, N: 128},
	{Role: api.Peer, N: 0}, {Role: api.Peer, N: 7}, {Role: api.Peer, N: 300},
	{Role: 0, N: 0}, {Role: 0, N: 1}, {Role: 5, N: 64}, {Role: 300, N: 1},
	{Role: api.MaxNum - 1, N: 0}, {Role: 0, N: api.MaxNum - 1}, {Role: api.MaxNum - 1, N: api.MaxNum - 1},
}

// unwritable: Ids of which a number has no bytes.
var unwritable = []api.Id{
	{Role: -1, N: 0}, {Role: 1, N: -1}, {Role: -1, N: -1}, {Role: api.MaxNum, N: 0}, {Role: 1, N: api.MaxNum},
	{Role: math.MinInt, N: 1}, {Role: 1, N: math.MinInt}, {Role: math.MaxInt, N: math.MaxInt}, {Role: -1, N: math.MaxInt},
}

// secrets: of all sizes that a key is made of.
func secrets() [][]byte {
	return [][]byte{nil, {}, {0}, []byte("s"), noise(32), noise(64), noise(127), noise(128), noise(1000)}
}

// RFC 4231's test cases, and the chapter's example.
var known = []struct{ key, b, want string }{
	{"key", "The quick brown fox jumps over the lazy dog", "f7bc83f430538424b13298e6aa6fb143ef4d59a14946175997479dbc2d1a3cd8"},
	{"", "", "b613679a0814d9ec772f95d778c35fc5ff1697c493715653c6c712144292c5ad"},
	{strings.Repeat("\x0b", 20), "Hi There", "b0344c61d8db38535ca8afceaf0bf12b881dc200c9833da726e9376c2e32cff7"},
	{"Jefe", "what do ya want for nothing?", "5bdcc146bf60754e6a042426089575c75a003f089d2739839dec58b964ec3843"},
	{strings.Repeat("\xaa", 20), strings.Repeat("\xdd", 50), "773ea91e36800e46854db8ebd09181a72959098b3ef8c122d9635514ced565fe"},
	{"\x01\x02\x03\x04\x05\x06\x07\x08\x09\x0a\x0b\x0c\x0d\x0e\x0f\x10\x11\x12\x13\x14\x15\x16\x17\x18\x19", strings.Repeat("\xcd", 50), "82558a389a443c0ea4cc819899f2083a85f0faa3e578f8077a2e3ff46729665b"},
	{strings.Repeat("\xaa", 131), "Test Using Larger Than Block-Size Key - Hash Key First", "60e431591ee0b67f0d8a26aacbf5b77f8e0bc6213728c5140546040f0ee37f54"},
	{strings.Repeat("\xaa", 131), "This is a test using a larger than block-size key and a larger than block-size data. The key needs to be hashed before being used by the HMAC algorithm.", "9b09ffa71b942fcb27635fbcd5b0e944bfdc63644f0713938a7f51535c3a35e2"},
}

// P3.1
func TestHmacKnown(t *testing.T) {
	for _, k := range known {
		if got := hex.EncodeToString(Hmac([]byte(k.key), []byte(k.b))); got != k.want {
			t.Errorf("%.10q, %.20q: %s", k.key, k.b, got)
		}
	}
}

// P3.1: for a key of any length, around the block's 64 bytes above all.
func TestHmacAllSizes(t *testing.T) {
	for n := range 200 {
		key := noise(n)
		for _, size := range []int{0, 1, 31, 32, 55, 56, 63, 64, 65, 119, 120, 1000} {
			if b := noise(size); !bytes.Equal(Hmac(key, b), otherHmac(key, b)) {
				t.Errorf("a key of %d bytes, %d bytes", n, size)
			}
		}
	}
	for _, n := range []int{255, 256, 1000, 1 << 16, 1 << 20} {
		if key := noise(n); !bytes.Equal(Hmac(key, key), otherHmac(key, key)) {
			t.Errorf("a key of %d bytes", n)
		}
	}
}

// P3.1: a key of more than 64 bytes is its Sum; a shorter one has bytes 0 behind it, up to 64.
func TestHmacKeyEdges(t *testing.T) {
	b := []byte("body")
	for _, n := range []int{0, 1, 32, 63} {
		key := noise(n)
		want := Hmac(key, b)
		for fill := range 65 - n {
			if filled := append(bytes.Clone(key), make([]byte, fill)...); !bytes.Equal(Hmac(filled, b), want) {
				t.Errorf("%d bytes and %d bytes 0 are another key", n, fill)
			}
		}
		if filled := append(bytes.Clone(key), make([]byte, 65-n)...); bytes.Equal(Hmac(filled, b), want) {
			t.Errorf("%d bytes and bytes 0 up to 65 are the same key", n)
		}
	}
	for _, n := range []int{64, 65, 66, 200} {
		sum := sha256.Sum256(noise(n))
		if same := bytes.Equal(Hmac(noise(n), b), Hmac(sum[:], b)); same != (n > 64) {
			t.Errorf("a key of %d bytes is its Sum: %v", n, same)
		}
	}
}

// P3.1: digests that yet another implementation has told.
func TestKeyKnown(t *testing.T) {
	for _, x := range []struct {
		secret string
		a, b   api.Id
		want   string
	}{
		{"s", api.Id{Role: 3, N: 1}, api.Id{Role: 2, N: 0}, "a71b3ce77c93272fdc748e3a3c30962a7349d34fa1b013dddbf0312f4eb11587"},
		{"", api.Id{Role: 4, N: 300}, api.Id{Role: 1, N: 2}, "1edeb3ba9b5f01f241078b995926363b61b8b3ff9a0e6dbbed5b894385ff455d"},
	} {
		for _, got := range [][]byte{Key([]byte(x.secret), x.a, x.b), Key([]byte(x.secret), x.b, x.a)} {
			if hex.EncodeToString(got) != x.want {
				t.Errorf("%v and %v: %x", x.a, x.b, got)
			}
		}
	}
}

// P3.1: one key for each two, whichever is named first.
func TestKeyAllPairs(t *testing.T) {
	for _, secret := range secrets() {
		for _, a := range writable {
			for _, b := range writable {
				if got, want := Key(secret, a, b), otherKey(secret, a, b); !bytes.Equal(got, want) {
					t.Errorf("a secret of %d bytes, %v and %v: %x, not %x", len(secret), a, b, got, want)
				}
			}
		}
	}
}

// P3.1: other two, or another secret, have another key.
func TestKeysDiffer(t *testing.T) {
	seen := map[string]bool{}
	count := 0
	for _, secret := range []string{"", "\x00", "s", "t", "ss"} {
		for i, a := range writable {
			for _, b := range writable[i:] {
				seen[string(Key([]byte(secret), a, b))] = true
				count++
			}
		}
	}
	if len(seen) != count {
		t.Errorf("%d keys for %d secrets and pairs", len(seen), count)
	}
}

// P3.1: where a number can't be written, the key is 32 bytes 0.
func TestKeyUnwritable(t *testing.T) {
	zeros := make([]byte, 32)
	for _, secret := range append(secrets(), noise(api.MaxField+1)) {
		for _, a := range unwritable {
			for _, b := range slices.Concat(writable, unwritable) {
				if one, other := Key(secret, a, b), Key(secret, b, a); !bytes.Equal(one, zeros) || !bytes.Equal(other, zeros) {
					t.Errorf("a secret of %d bytes, %v and %v: %x, %x", len(secret), a, b, one, other)
				}
			}
		}
	}
}

// P3.1: a secret that is too long for a field leaves Join without bytes, and the key is their Sum.
func TestKeyLongSecret(t *testing.T) {
	a, b := api.Id{Role: api.Doer, N: 1}, api.Id{Role: api.Orderer, N: 2}
	if secret := noise(api.MaxField); !bytes.Equal(Key(secret, a, b), otherKey(secret, a, b)) {
		t.Error("the longest secret of all")
	}
	ofNothing := sha256.Sum256(nil)
	for _, n := range []int{api.MaxField + 1, api.MaxField + 2, 1 << 20} {
		if got := Key(noise(n), a, b); !bytes.Equal(got, ofNothing[:]) {
			t.Errorf("a secret of %d bytes: %x", n, got)
		}
	}
}

// P3.1: tags that yet another implementation has told.
func TestTagKnown(t *testing.T) {
	doer, orderer, none := api.Id{Role: 3, N: 1}, api.Id{Role: 2, N: 0}, api.Id{Role: 3, N: -1}
	for _, x := range []struct {
		secret   string
		from, to api.Id
		body     string
		want     string
	}{
		{"s", doer, orderer, "body", "f2648dd1f88e5e82efbafa33d6d32c0b"},
		{"s", orderer, doer, "body", "90e5fc668eecc4ef1110b7f868d7c5b3"},
		{"", api.Id{Role: 1, N: 2}, api.Id{Role: 4, N: 300}, "", "6da5663f46e321d7dcfd95dab293ee19"},
		// The sender's number, the reader's role, the reader's number can't be written.
		{"s", none, orderer, "body", "982e063f0b317c4174f7752a7d67cb91"},
		{"s", doer, api.Id{Role: api.MaxNum, N: 0}, "body", "982e063f0b317c4174f7752a7d67cb91"},
		{"s", doer, api.Id{Role: 2, N: -1}, "body", "3e9c8a4419118d2029fc23672a00c663"},
	} {
		if got := hex.EncodeToString(Tag([]byte(x.secret), x.from, x.to, []byte(x.body))); got != x.want {
			t.Errorf("%v to %v: %s", x.from, x.to, got)
		}
	}
}

// P3.1: for all Ids, also those that can't be written.
func TestTagAllPairs(t *testing.T) {
	all := slices.Concat(writable, unwritable)
	for _, secret := range [][]byte{nil, []byte("s"), noise(64)} {
		for _, from := range all {
			for _, to := range all {
				for _, body := range [][]byte{nil, {0}, []byte("body"), noise(200)} {
					if got, want := Tag(secret, from, to, body), otherTag(secret, from, to, body); !bytes.Equal(got, want) {
						t.Errorf("%v to %v, %d bytes: %x, not %x", from, to, len(body), got, want)
					}
				}
			}
		}
	}
}

// P3.1: a body of up to a field's bytes has a tag of 16 bytes, a longer one none.
func TestTagSizes(t *testing.T) {
	from, to := writable[0], writable[3]
	for _, n := range []int{0, 1, 127, 128, 65535, api.MaxField} {
		got := Tag([]byte("s"), from, to, noise(n))
		if len(got) != 16 || !bytes.Equal(got, otherTag([]byte("s"), from, to, noise(n))) {
			t.Errorf("%d bytes: %x", n, got)
		}
	}
	for _, n := range []int{api.MaxField + 1, api.MaxField + 2, 1 << 20} {
		for _, from := range []api.Id{from, unwritable[0]} {
			if got := Tag([]byte("s"), from, to, noise(n)); len(got) != 0 {
				t.Errorf("%d bytes: %x", n, got)
			}
		}
	}
}

// P3.1: another secret, sender, reader or body has another tag.
func TestTagsDiffer(t *testing.T) {
	seen := map[string]bool{}
	count := 0
	for _, secret := range []string{"", "s"} {
		for _, from := range writable {
			for _, to := range writable {
				for _, body := range []string{"", "\x00", "a", "ab"} {
					seen[string(Tag([]byte(secret), from, to, []byte(body)))] = true
					count++
				}
			}
		}
	}
	if len(seen) != count {
		t.Errorf("%d tags for %d letters", len(seen), count)
	}
}

// P2: an answer doesn't hang on the calls before.
func TestAgain(t *testing.T) {
	from, to := writable[0], writable[3]
	key, tag, sum := Key([]byte("s"), from, to), Tag([]byte("s"), from, to, nil), Hmac(nil, nil)
	Seal(noise(100), to, api.Doer, 7, noise(50), 3)
	Key(nil, unwritable[0], to)
	Hmac(noise(100), noise(100))
	if !bytes.Equal(Key([]byte("s"), from, to), key) || !bytes.Equal(Tag([]byte("s"), from, to, nil), tag) || !bytes.Equal(Hmac(nil, nil), sum) {
		t.Error("another answer than before")
	}
}
