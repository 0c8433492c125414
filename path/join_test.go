package path

import (
	"fmt"
	"slices"
	"strings"
	"testing"

	"stanchion/api"
)

// P9.2: the path with these parts behind it.
func TestJoin(t *testing.T) {
	for _, x := range []struct {
		want, parent string
		parts        []string
	}{
		{"/", "/", nil},
		{"/a", "/a", nil},
		{"/a/b", "/a/b", []string{}},
		{full, full, nil},
		{"/a", "/", []string{"a"}},
		{"/a/b", "/", []string{"a", "b"}},
		{"/a/b", "/a", []string{"b"}},
		{"/a/b/c/d", "/a/b", []string{"c", "d"}},
		{"/b/a", "/b", []string{"a"}},
		{"/a/a/a", "/a", []string{"a", "a"}},
		{"/q/t-/00007", "/q/t-", []string{"00007"}},
		{"/-/_/0", "/-", []string{"_", "0"}},
		{wide, "/", []string{wide[1:]}},
		{full, full[:56], []string{"abcdefg"}},
		{full, "/", slices.Repeat([]string{"abcdefg"}, 8)},
		{deep, "/", slices.Repeat([]string{"a"}, 32)},
		{deep, "/a", slices.Repeat([]string{"a"}, 31)},
		{deep, deep[:62], []string{"a"}},
	} {
		joined(t, x.want, true, x.parent, x.parts...)
	}
}

// P9.2: what isn't a path has nothing behind it.
func TestJoinNoParent(t *testing.T) {
	for _, p := range noPaths {
		joined(t, "", false, p)
		joined(t, "", false, p, "a")
		joined(t, "", false, p, "a", "b")
		joined(t, "", false, p, "")
	}
}

// P9.2: just parts are joined, each by itself, wherever it stands in the list.
func TestJoinNoPart(t *testing.T) {
	wrong := []string{"", "/", "/a", "a/", "a/b", "//", "A", "aB", " ", "a b", ".", "..", "\x00", "a\n", "a\xff", "é", "ſ", strings.Repeat("n", 17), strings.Repeat("n", 64), strings.Repeat("n", 65), strings.Repeat("n", 257), strings.Repeat("n", 1<<16+1), strings.Repeat("a", 1<<20)}
	for _, part := range wrong {
		for _, parent := range []string{"/", "/a", full[:56], full} {
			for _, parts := range [][]string{{part}, {part, "a"}, {"a", part}, {"a", part, "b"}, {"a", "b", part}, {part, part}} {
				joined(t, "", false, parent, parts...)
			}
		}
	}
	for c := range 256 {
		b := string([]byte{byte(c)})
		ok := strings.Contains("abcdefghijklmnopqrstuvwxyz0123456789-_", b)
		want := ""
		if ok {
			want = "/p/" + b
		}
		joined(t, want, ok, "/p", b)
	}
}

// P9.2: what comes of it has at most 64 bytes.
func TestJoinLong(t *testing.T) {
	for size := 1; size <= 64; size++ {
		parent := strings.Repeat("/ab", 22)[:size]
		if size > 1 && parent[size-1] == '/' {
			parent = parent[:size-1] + "x"
		}
		for n := 1; n <= 16; n++ {
			part := strings.Repeat("n", n)
			want, ok := parent+"/"+part, size+1+n <= 64
			if parent == "/" {
				want, ok = "/"+part, true
			}
			if !ok {
				want = ""
			}
			joined(t, want, ok, parent, part)
		}
	}
	joined(t, "", false, full, "a")
	joined(t, "", false, full[:63], "a")
	joined(t, full[:62]+"/a", true, full[:62], "a")
}

// P9.2: any number of parts; more than 32 are too many.
func TestJoinMany(t *testing.T) {
	for _, n := range []int{0, 1, 2, 31, 32, 33, 34, 63, 64, 65, 66, 127, 128, 129, 255, 256, 257, 1 << 16, 1<<16 + 1, 1 << 22} {
		parts := slices.Repeat([]string{"a"}, n)
		ok := n <= 32
		want := ""
		if ok {
			want = "/" + strings.Join(parts, "/")
		}
		joined(t, want, ok, "/", parts...)
		joined(t, "", false, "/", append(parts, "A")...)
		joined(t, "", false, "/", slices.Repeat([]string{""}, n+1)...)
	}
}

// P9.2: all short parents and parts, and all others of these tests, come to what another implementation makes of them.
func TestJoinOther(t *testing.T) {
	few := all("/a-Z", 3)
	for _, parent := range few {
		for _, first := range few {
			for _, second := range few {
				want, ok := otherJoin(parent, first, second)
				joined(t, want, ok, parent, first, second)
			}
		}
	}
	for _, parent := range texts {
		for _, p := range texts {
			parts, _ := otherParts(p)
			want, ok := otherJoin(parent, parts...)
			joined(t, want, ok, parent, parts...)
		}
	}
}

// P9.1, P9.2: a path's parent with its name behind it is the path, and so is the root with its parts.
func TestJoinAgain(t *testing.T) {
	for _, p := range paths {
		parts, _ := Parts(p)
		joined(t, p, true, "/", parts...)
		if p == "/" {
			continue
		}
		parent, _ := Parent(p)
		name, _ := Name(p)
		joined(t, p, true, parent, name)
	}
}

// P9.2: the number stands in five digits behind the path.
func TestNumbered(t *testing.T) {
	for n, want := range map[int]string{
		0: "00000", 1: "00001", 7: "00007", 8: "00008", 9: "00009", 10: "00010", 64: "00064", 99: "00099", 100: "00100", 256: "00256",
		999: "00999", 1000: "01000", 9999: "09999", 10000: "10000", 12345: "12345", 65535: "65535", 65536: "65536", 99998: "99998", 99999: "99999",
	} {
		for _, p := range []string{"/a", "/q/t-", "/0", "/-", "/a/b/c", "/" + strings.Repeat("n", 11), full[:59]} {
			numbered(t, p+want, true, p, n)
		}
	}
}

// P9.2: all numbers that can be.
func TestNumberedAll(t *testing.T) {
	for n := range 100000 {
		if got, e := Numbered("/q/t-", n); got != fmt.Sprintf("/q/t-%05d", n) || e != api.OK {
			t.Fatal(n, got, e)
		}
	}
}

// P9.2: no other number, whatever the path.
func TestNumberedFar(t *testing.T) {
	for _, n := range append(far, -2, -100, -99998, 99999+2, 999999) {
		for _, p := range texts {
			numbered(t, "", false, p, n)
		}
	}
}

// P9.2: neither behind the root nor behind what isn't a path.
func TestNumberedNoPath(t *testing.T) {
	for _, n := range []int{0, 1, 7, 12345, 99999} {
		numbered(t, "", false, "/", n)
		for _, p := range noPaths {
			numbered(t, "", false, p, n)
		}
	}
}

// P9.2: what comes of it is a path: its last part has at most 16 bytes, and all of it at most 64.
func TestNumberedLong(t *testing.T) {
	for n := 1; n <= 16; n++ {
		for _, above := range []string{"/", "/a/", "/abcdefghijklmnop/"} {
			p := above + strings.Repeat("n", n)
			ok := n <= 11
			want := ""
			if ok {
				want = p + "00042"
			}
			numbered(t, want, ok, p, 42)
		}
	}
	for size := 2; size <= 64; size++ {
		for _, unit := range []string{"/a", "/ab", "/abc", "/abcdefg"} {
			p := strings.Repeat(unit, 32)[:size]
			if p[size-1] == '/' {
				continue
			}
			ok := size <= 59
			want := ""
			if ok {
				want = p + "99999"
			}
			numbered(t, want, ok, p, 99999)
		}
	}
}

// P9.2: all short texts, and all others of these tests, come to what another implementation makes of them.
func TestNumberedOther(t *testing.T) {
	for _, p := range slices.Concat(texts, all("/a-Z", 5)) {
		for _, n := range []int{-1, 0, 5, 10, 99999, 100000} {
			want, ok := otherNumbered(p, n)
			numbered(t, want, ok, p, n)
		}
	}
}
