package path

import (
	"bytes"
	"fmt"
	"math"
	"regexp"
	"slices"
	"strings"
	"testing"

	"stanchion/api"
)

// far: numbers that stand behind no path, such as come to ones that do in fewer bits or without their sign among them.
var far = []int{math.MinInt, math.MinInt + 1, math.MinInt + 7, -1 << 32, -100000, -99999, -256, -10, -7, -1, 100000, 100001, 100007, 1 << 17, 1000000, 1 << 32, 1<<32 + 7, api.MaxWide, api.MaxNum, api.MaxNum + 7, math.MaxInt - 1, math.MaxInt}

// paths are as long, deep and mixed as they can be, and less.
var paths = []string{
	"/", "/a", "/z", "/0", "/9", "/-", "/_", "/--", "/__", "/a/b", "/a/b/c", "/b", "/b/a", "/ab", "/a-", "/a_", "/a0",
	"/q/t-", "/a_-1/b", "/a/a/a", "/0/0", "/-/_", "/abcdefghijklmnop", "/qrstuvwxyz012345/6789-_", "/1/22/333/4444",
	wide, "/a/" + strings.Repeat("n", 16), full, full[:63], full[:62] + "z", deep, deep[:62],
	"/" + strings.Repeat("n", 10), "/" + strings.Repeat("n", 11), "/" + strings.Repeat("n", 12), "/" + strings.Repeat("n", 15),
	strings.Repeat("/abcdefg", 7) + "/ab", strings.Repeat("/abcdefg", 7) + "/abc",
}

// The greatest paths: of one part, of eight, and of thirty-two.
var (
	wide = "/" + strings.Repeat("n", 16)
	full = strings.Repeat("/abcdefg", 8)
	deep = strings.Repeat("/a", 32)
)

// noPaths are all but paths.
var noPaths = []string{
	"", "a", "a/", "a/b", "//", "///", "/a/", "//a", "/a//", "/a//b", "/a/b/", "//a/b", "/A", "/a/B", "/Z", "/aA", "/a b", " /a", "/a ", "/ ", " ", "/.", "/..", "/a/../b", "/./a",
	"/a\n", "\n/a", "\n", "/a\x00", "/\x00", "\x00", "\x00/a", "/a\\b", "\\a", "/a+", "/a:", "/`", "/{", "/@", "/[", "/,", "/a\xff", "/\x80", "\xff", "/\xe1", "/é", "/ſ", "/K", "/٣", "/a／b",
	"/" + strings.Repeat("n", 17), "/a/" + strings.Repeat("n", 17), "/" + strings.Repeat("n", 17) + "/a", "/" + strings.Repeat("n", 63), strings.Repeat("n", 16),
	full + "x", full + "/", full + "/x", full + "/abcdefg", deep + "a", deep + "/", deep + "/a", full[1:], "/" + full[:63],
	strings.Repeat("/abcdefghijklmno", 4) + "a", strings.Repeat("/abcdefghijklmnop", 4), strings.Repeat("/", 64), strings.Repeat("/", 65),
	strings.Repeat("a", 1<<20), strings.Repeat("/", 1<<20), strings.Repeat("/a", 1<<20), "/" + strings.Repeat("a", 1<<20), "/" + strings.Repeat("a", 256+1), "/" + strings.Repeat("a", 1<<16+1), strings.Repeat("/a", 1<<15+1),
}

// texts: paths, and all but these.
var texts = slices.Concat(paths, noPaths)

// form is what a path is, in other words.
var form = regexp.MustCompile(`\A(/|(/[0-9_a-z-]{1,16})+)\z`)

// otherCheck: is it a path?
func otherCheck(p string) bool {
	return len(p) <= 64 && form.MatchString(p)
}

// otherCut: its parent and its last part, if it is a path and has them.
func otherCut(p string) (parent, name string, ok bool) {
	if !otherCheck(p) || p == "/" {
		return "", "", false
	}
	for p[len(p)-1] != '/' {
		name = p[len(p)-1:] + name
		p = p[:len(p)-1]
	}
	if p != "/" {
		p = p[:len(p)-1]
	}
	return p, name, true
}

// otherParts: its parts.
func otherParts(p string) ([]string, bool) {
	var parts []string
	for {
		parent, name, ok := otherCut(p)
		if !ok {
			return parts, otherCheck(p)
		}
		parts = append([]string{name}, parts...)
		p = parent
	}
}

// otherJoin: with parts behind it.
func otherJoin(parent string, parts ...string) (string, bool) {
	if !otherCheck(parent) {
		return "", false
	}
	for _, part := range parts {
		if strings.Contains(part, "/") || !otherCheck("/"+part) || part == "" {
			return "", false
		}
		if parent != "/" {
			parent += "/"
		}
		if parent += part; len(parent) > 64 {
			return "", false
		}
	}
	return parent, true
}

// otherNumbered: with a number behind it.
func otherNumbered(p string, n int) (string, bool) {
	numbered := fmt.Sprintf("%s%05d", p, n)
	if !otherCheck(p) || p == "/" || n < 0 || n > 99999 || !otherCheck(numbered) {
		return "", false
	}
	return numbered, true
}

// otherWithin: is top one of those that are met from p up to the root?
func otherWithin(p, top string) bool {
	for otherCheck(p) {
		if p == top {
			return true
		}
		p, _, _ = otherCut(p)
	}
	return false
}

// short: a text for a test's report.
func short(s string) string {
	if len(s) > 100 {
		return fmt.Sprintf("%q.. (%d bytes)", s[:100], len(s))
	}
	return fmt.Sprintf("%q", s)
}

// told: a call answers this text, or ErrPath and nothing else.
func told(t *testing.T, got string, e api.Errno, want string, ok bool, call string, of ...any) {
	t.Helper()
	wantE := api.ErrPath
	if ok {
		wantE = api.OK
	}
	if got != want || e != wantE {
		t.Errorf("%s: %s, %d, not %s, %d", fmt.Sprintf(call, of...), short(got), e, short(want), wantE)
	}
}

// hasParts: Parts answers this list, or ErrPath and nothing else.
func hasParts(t *testing.T, p string, want []string, ok bool) {
	t.Helper()
	got, e := Parts(p)
	wantE := api.ErrPath
	if ok {
		wantE = api.OK
	}
	if !slices.Equal(got, want) || e != wantE {
		t.Errorf("Parts(%s): %q, %d, not %q, %d", short(p), got, e, want, wantE)
	}
}

// single: what the calls on one text answer is what the others do.
func single(t *testing.T, p string) {
	t.Helper()
	ok := otherCheck(p)
	if e := Check(p); (e == api.OK) != ok || (e == api.ErrPath) == ok {
		t.Errorf("Check(%s): %d", short(p), e)
	}
	parts, _ := otherParts(p)
	hasParts(t, p, parts, ok)
	parent, name, ok := otherCut(p)
	got, e := Parent(p)
	told(t, got, e, parent, ok, "Parent(%s)", short(p))
	got, e = Name(p)
	told(t, got, e, name, ok, "Name(%s)", short(p))
}

// within: whether p is within top is this.
func within(t *testing.T, p, top string, want bool) {
	t.Helper()
	if got := Within(p, top); got != want {
		t.Errorf("Within(%s, %s): %v", short(p), short(top), got)
	}
}

// joined: Join answers this, or ErrPath.
func joined(t *testing.T, want string, ok bool, parent string, parts ...string) {
	t.Helper()
	got, e := Join(parent, parts...)
	if len(parts) > 100 {
		told(t, got, e, want, ok, "Join(%s, %d parts)", short(parent), len(parts))
		return
	}
	told(t, got, e, want, ok, "Join(%s, %.100q)", short(parent), parts)
}

// numbered: Numbered answers this, or ErrPath.
func numbered(t *testing.T, want string, ok bool, p string, n int) {
	t.Helper()
	got, e := Numbered(p, n)
	told(t, got, e, want, ok, "Numbered(%s, %d)", short(p), n)
}

// all: all texts of these bytes, of at most so many.
func all(letters string, most int) []string {
	list := []string{""}
	for begun := 0; most > 0; most-- {
		end := len(list)
		for _, s := range list[begun:end] {
			for i := range len(letters) {
				list = append(list, s+letters[i:i+1])
			}
		}
		begun = end
	}
	return list
}

// answers: what all calls answer of two texts and a number.
func answers(p, q string, n int) string {
	var b bytes.Buffer
	parent, e1 := Parent(p)
	name, e2 := Name(p)
	parts, e3 := Parts(p)
	whole, e4 := Join(p, q, q)
	number, e5 := Numbered(p, n)
	fmt.Fprintf(&b, "%d %d %d %d %d %d %q %q %q %q %q %v", Check(p), e1, e2, e3, e4, e5, parent, name, parts, whole, number, Within(p, q))
	return b.String()
}
