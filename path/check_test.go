package path

import (
	"slices"
	"strings"
	"testing"

	"stanchion/api"
)

// P9.1: what are paths, and what aren't.
func TestCheck(t *testing.T) {
	for _, p := range paths {
		if e := Check(p); e != api.OK {
			t.Errorf("%q: %d", p, e)
		}
	}
	for _, p := range noPaths {
		if e := Check(p); e != api.ErrPath {
			t.Errorf("%s: %d", short(p), e)
		}
	}
}

// P9.1: each byte in each place: just the small letters, digits, "-" and "_" stand in a part, and just the slash ahead of it.
func TestCheckBytes(t *testing.T) {
	const inPart = "abcdefghijklmnopqrstuvwxyz0123456789-_"
	for c := range 256 {
		b := string([]byte{byte(c)})
		can := strings.Contains(inPart, b)
		for _, p := range []string{"/" + b, "/" + b + "a", "/a" + b, "/a" + b + "a", "/a/" + b, "/" + b + "/a", "/a/a" + b + "a/a", wide[:16] + b, deep[:63] + b} {
			// A slash with a part behind it stands in a path too.
			want := can || c == '/' && !strings.Contains(p, "//") && !strings.HasSuffix(p, "/")
			if e := Check(p); (e == api.OK) != want || (e == api.ErrPath) == want {
				t.Errorf("%q: %d", p, e)
			}
		}
		for _, p := range []string{b, b + "a", b + "a/a", b + "/a"} {
			want := c == '/' && p != "//a"
			if e := Check(p); (e == api.OK) != want || (e == api.ErrPath) == want {
				t.Errorf("%q: %d", p, e)
			}
		}
	}
}

// P9.1: a part has 1 to 16 bytes, wherever it stands.
func TestCheckPartSizes(t *testing.T) {
	for n := range 300 {
		part := strings.Repeat("n", n)
		for _, p := range []string{"/" + part, "/a/" + part, "/" + part + "/a", "/a/" + part + "/a"} {
			want := n >= 1 && n <= 16 || n == 0 && p == "/"
			if e := Check(p); (e == api.OK) != want || (e == api.ErrPath) == want {
				t.Errorf("a part of %d bytes: %d", n, e)
			}
		}
	}
}

// P9.1: a path has at most 64 bytes, however many parts these are.
func TestCheckSizes(t *testing.T) {
	for _, unit := range []string{"/a", "/ab", "/abc", "/abcdefg", "/abcdefghijklmno", "/abcdefghijklmnop"} {
		long := strings.Repeat(unit, 400)
		for n := 1; n <= 700; n++ {
			p := long[:n]
			want := n <= 64 && (n == 1 || p[n-1] != '/')
			if e := Check(p); (e == api.OK) != want || (e == api.ErrPath) == want {
				t.Errorf("%d bytes of %q: %d", n, unit, e)
			}
		}
	}
}

// P9.1: parts, parents and names, written out.
func TestPartsWrittenOut(t *testing.T) {
	for _, x := range []struct {
		p, parent string
		parts     []string
	}{
		{"/a", "/", []string{"a"}},
		{"/a/b", "/a", []string{"a", "b"}},
		{"/b/a", "/b", []string{"b", "a"}},
		{"/a/a/a", "/a/a", []string{"a", "a", "a"}},
		{"/-", "/", []string{"-"}},
		{"/_/-/0", "/_/-", []string{"_", "-", "0"}},
		{"/q/t-00007", "/q", []string{"q", "t-00007"}},
		{"/abc/de/f", "/abc/de", []string{"abc", "de", "f"}},
		{wide, "/", []string{"nnnnnnnnnnnnnnnn"}},
		{full, full[:56], slices.Repeat([]string{"abcdefg"}, 8)},
		{deep, deep[:62], slices.Repeat([]string{"a"}, 32)},
	} {
		hasParts(t, x.p, x.parts, true)
		got, e := Parent(x.p)
		told(t, got, e, x.parent, true, "Parent(%q)", x.p)
		got, e = Name(x.p)
		told(t, got, e, x.parts[len(x.parts)-1], true, "Name(%q)", x.p)
	}
}

// P9.1: the root has no parts, no parent and no name, but is a path.
func TestRoot(t *testing.T) {
	if e := Check("/"); e != api.OK {
		t.Error(e)
	}
	hasParts(t, "/", nil, true)
	got, e := Parent("/")
	told(t, got, e, "", false, "Parent of the root")
	got, e = Name("/")
	told(t, got, e, "", false, "Name of the root")
}

// P9.1: of what isn't a path there is nothing but ErrPath.
func TestNoPath(t *testing.T) {
	for _, p := range noPaths {
		hasParts(t, p, nil, false)
		got, e := Parent(p)
		told(t, got, e, "", false, "Parent(%s)", short(p))
		got, e = Name(p)
		told(t, got, e, "", false, "Name(%s)", short(p))
	}
}

// P9.1: all short texts of a few bytes, and all others of these tests, come to what another implementation makes of them.
func TestOther(t *testing.T) {
	for _, p := range slices.Concat(texts, all("/a-0Z", 6), all("/_\x00", 8)) {
		single(t, p)
	}
	for _, p := range texts {
		if len(p) > 100 {
			continue
		}
		for i := range len(p) {
			for _, c := range []string{"", "/", "//", "a", "A", "\x00", "\xff", "é"} {
				single(t, p[:i]+c+p[i:])
				single(t, p[:i]+c+p[i+1:])
			}
		}
	}
}
