package sha

import (
	"bytes"
	"crypto/sha256"
	"encoding/hex"
	"math/rand"
	"strings"
	"testing"
)

const ofNothing = "e3b0c44298fc1c149afbf4c8996fb92427ae41e4649b934ca495991b7852b855"

// known: digests that are known from elsewhere, the document's and those that stand with the standard.
var known = []struct {
	b    string
	want string
}{
	{"abc", "ba7816bf8f01cfea414140de5dae2223b00361a396177a9cb410ff61f20015ad"},
	{"abcdbcdecdefdefgefghfghighijhijkijkljklmklmnlmnomnopnopq", "248d6a61d20638b8e5c026930c3e6039a33ce45964ff2167f6ecedd419db06c1"},
	{"abcdefghbcdefghicdefghijdefghijkefghijklfghijklmghijklmnhijklmnoijklmnopjklmnopqklmnopqrlmnopqrsmnopqrstnopqrstu", "cf5b16a778af8380036ce59e7b0492370b249b11e8f07a51afac45037afee9d1"},
	{strings.Repeat("a", 1000000), "cdc76e5c9914fb9281a1c7e284d73e67f1809a48a497200e046d39ccc7112cd0"},
	{"", ofNothing},
	{strings.Repeat("a", 1000), "41edece42d63e8d9bf515a9ba6932e1c20cbc9f5a5d134645adb5db1b9737ea3"},
	{"\xbd", "68325720aabd7c82f30f554b313d0570c95accbb7dc4b5aae11204c08ffe732b"},
	{"The quick brown fox jumps over the lazy dog", "d7a8fbb307d7809469ca9abcb0082e4f8d5651e46d3cdb762d02d0bf37c9e592"},
}

// noise: n bytes of all kinds, the same at each run.
func noise(n int) []byte {
	b := make([]byte, n)
	rand.New(rand.NewSource(int64(n))).Read(b)
	return b
}

// check: the digest of the parts is what another implementation answers of them.
func check(t *testing.T, parts ...[]byte) {
	t.Helper()
	other := sha256.New()
	size := 0
	for _, p := range parts {
		other.Write(p)
		size += len(p)
	}
	if got, want := Sum(parts...), other.Sum(nil); !bytes.Equal(got, want) {
		t.Fatalf("Sum of %d parts, %d bytes: %x, not %x", len(parts), size, got, want)
	}
}

// P2.1
func TestSumKnown(t *testing.T) {
	for _, k := range known {
		if got := Sum([]byte(k.b)); hex.EncodeToString(got) != k.want {
			t.Errorf("%.20q: %x", k.b, got)
		}
		if got := Hex(Sum([]byte(k.b))); got != k.want {
			t.Errorf("%.20q: %s", k.b, got)
		}
	}
}

// P2.1, rule 1: no parts, nil and empty ones are all nothing.
func TestSumOfNothing(t *testing.T) {
	for _, parts := range [][][]byte{nil, {}, {nil}, {{}}, {nil, {}, nil}, make([][]byte, 1000)} {
		if got := Sum(parts...); hex.EncodeToString(got) != ofNothing {
			t.Errorf("%d parts: %x", len(parts), got)
		}
	}
}

// P2.1: whatever place of its block the last byte has.
func TestSumAllSizes(t *testing.T) {
	for n := range 1025 {
		check(t, noise(n))
		check(t, make([]byte, n))
		check(t, bytes.Repeat([]byte{0xff}, n))
		check(t, bytes.Repeat([]byte{0x80}, n))
	}
	for _, n := range []int{4095, 4096, 65535, 65536, 65537, 1<<20 + 55, 1<<20 + 56, 1<<20 + 64} {
		check(t, noise(n))
	}
}

// P2.1: wherever two parts meet.
func TestSumTwoParts(t *testing.T) {
	for n := range 200 {
		b := noise(n)
		for i := range n + 1 {
			check(t, b[:i], b[i:])
			check(t, nil, b[:i], []byte{}, b[i:], nil)
		}
	}
}

// P2.1: the order of the parts counts, and where they meet doesn't.
func TestSumOrder(t *testing.T) {
	abc := Sum([]byte("abc"))
	for _, parts := range []string{"a b c", "ab c", "a bc", " abc", "abc ", "a  bc"} {
		if got := Sum(bytes.Split([]byte(parts), []byte(" "))...); !bytes.Equal(got, abc) {
			t.Errorf("%q: %x", parts, got)
		}
	}
	for _, parts := range []string{"c b a", "a c b", "bc a", "a b", "a b c c", "a b c \x00", "\x00 abc", "A b c"} {
		if got := Sum(bytes.Split([]byte(parts), []byte(" "))...); bytes.Equal(got, abc) {
			t.Errorf("%q has abc's", parts)
		}
	}
}

// P2.1: any parts.
func TestSumAnyParts(t *testing.T) {
	r := rand.New(rand.NewSource(2))
	for range 20000 {
		parts := make([][]byte, r.Intn(8))
		for i := range parts {
			parts[i] = noise(r.Intn([]int{2, 70, 200}[r.Intn(3)]))
		}
		check(t, parts...)
	}
}

// P2.1: one part may stand there more than once, and share memory with others.
func TestSumSharedParts(t *testing.T) {
	b := noise(150)
	check(t, b, b, b)
	check(t, b[10:], b[:100], b[50:60], b)
}

// P1: many parts end soon.
func TestSumManyParts(t *testing.T) {
	b := noise(1 << 18)
	var parts [][]byte
	for i := range b {
		parts = append(parts, b[i:i+1], nil)
	}
	if !bytes.Equal(Sum(parts...), Sum(b)) {
		t.Error("bytes by themselves have another digest")
	}
}

// P2.1: the length is one in bits, of 64 bits; those of this one have no room in 32.
func TestSumLong(t *testing.T) {
	part := noise(1 << 16)
	var parts [][]byte
	for range 1 << 13 {
		parts = append(parts, part)
	}
	check(t, append(parts, []byte("and more"))...)
}

// P2.1: 32 bytes, whatever they are of.
func TestSumSize(t *testing.T) {
	for _, n := range []int{0, 1, 32, 55, 56, 63, 64, 65, 1000} {
		if got := Sum(noise(n)); len(got) != 32 {
			t.Error(n, len(got))
		}
	}
}

// P2: an answer doesn't hang on the calls before.
func TestSumAgain(t *testing.T) {
	first := Sum([]byte("abc"))
	Sum(noise(100))
	Sum(nil)
	Hex(noise(100))
	if got := Sum([]byte("abc")); !bytes.Equal(got, first) {
		t.Errorf("%x, then %x", first, got)
	}
}

// P2.1
func TestHex(t *testing.T) {
	for _, x := range []struct {
		b    []byte
		want string
	}{
		{nil, ""},
		{[]byte{}, ""},
		{[]byte{0}, "00"},
		{[]byte{9}, "09"},
		{[]byte{10}, "0a"},
		{[]byte{15}, "0f"},
		{[]byte{16}, "10"},
		{[]byte{127}, "7f"},
		{[]byte{128}, "80"},
		{[]byte{160}, "a0"},
		{[]byte{255}, "ff"},
		{[]byte{0, 255, 16}, "00ff10"},
		{[]byte{0, 0}, "0000"},
		{[]byte("0aZ\xff"), "30615aff"},
		{[]byte{1, 0x23, 0x45, 0x67, 0x89, 0xab, 0xcd, 0xef}, "0123456789abcdef"},
	} {
		if got := Hex(x.b); got != x.want {
			t.Errorf("Hex(%v): %q", x.b, got)
		}
	}
}

// P2.1: two digits for each byte there is.
func TestHexAllBytes(t *testing.T) {
	var all []byte
	for c := range 256 {
		all = append(all, byte(c))
		if got := Hex([]byte{byte(c)}); got != hex.EncodeToString([]byte{byte(c)}) {
			t.Errorf("%d: %q", c, got)
		}
	}
	if got := Hex(all); got != hex.EncodeToString(all) {
		t.Error(got)
	}
	for n := range 100 {
		if b := noise(n); Hex(b) != hex.EncodeToString(b) {
			t.Error(n, Hex(b))
		}
	}
}

// P1: many bytes end soon.
func TestHexLong(t *testing.T) {
	b := noise(1 << 22)
	if Hex(b) != hex.EncodeToString(b) {
		t.Error("long bytes have other digits")
	}
}
