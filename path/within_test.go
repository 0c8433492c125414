package path

import (
	"strings"
	"testing"
)

// P9.3: a path is within itself, the root, and those that it begins with a slash behind them.
func TestWithin(t *testing.T) {
	for _, x := range []struct {
		p, top string
		want   bool
	}{
		{"/", "/", true},
		{"/a", "/", true},
		{"/a/b/c", "/", true},
		{"/a", "/a", true},
		{"/a/b", "/a", true},
		{"/a/b/c", "/a", true},
		{"/a/b/c", "/a/b", true},
		{"/a/b/c", "/a/b/c", true},
		{"/", "/a", false},
		{"/a", "/a/b", false},
		{"/a/b", "/a/b/c", false},
		{"/ab", "/a", false},
		{"/a-", "/a", false},
		{"/a0/b", "/a", false},
		{"/a/bc", "/a/b", false},
		{"/a", "/ab", false},
		{"/a", "/b", false},
		{"/b/a", "/a", false},
		{"/a/b", "/b", false},
		{"/a/b", "/a/c", false},
		{"/a/a", "/a", true},
		{"/a", "/a/a", false},
		{full, "/", true},
		{full, full[:56], true},
		{full, full[:8], true},
		{full, full, true},
		{full, full[:63], false},
		{full, full[:57] + "b", false},
		{full[:56], full, false},
		{full[:63], full, false},
		{deep, deep[:62], true},
		{deep[:62], deep, false},
		{wide, wide[:16], false},
	} {
		within(t, x.p, x.top, x.want)
	}
}

// P9.3: what isn't a path is within nothing, and nothing is within it.
func TestWithinNoPath(t *testing.T) {
	for _, p := range noPaths {
		for _, q := range texts {
			within(t, p, q, false)
			within(t, q, p, false)
		}
	}
	for _, x := range [][2]string{
		{"", ""}, {"a", "/"}, {"/a/", "/a"}, {"/a/b/", "/a"}, {"/a//b", "/a"}, {"/a/B", "/a"}, {"/a/b", "/a/"}, {"/a", ""}, {"/a", "//"}, {"//", "/"},
		{full + "/", full}, {full + "/a", full}, {full + "/a", "/"}, {"/a/" + strings.Repeat("n", 17), "/a"}, {"/A/b", "/A"}, {"/a/b\x00", "/a"},
	} {
		within(t, x[0], x[1], false)
		within(t, x[1], x[0], false)
	}
}

// P9.3: each path is within just those that are met on the way up.
func TestWithinWayUp(t *testing.T) {
	for _, p := range paths {
		parts, _ := Parts(p)
		for n := range len(parts) + 1 {
			top, _ := Join("/", parts[:n]...)
			within(t, p, top, true)
			within(t, top, p, n == len(parts))
		}
	}
}

// P9.3: all pairs of short texts, and of all others of these tests, come to what another implementation makes of them.
func TestWithinOther(t *testing.T) {
	for _, list := range [][]string{texts, all("/aZ", 5), all("/ab", 5)} {
		for _, p := range list {
			for _, top := range list {
				within(t, p, top, otherWithin(p, top))
			}
		}
	}
}

// P9.1 to P9.3: the chapter's examples.
func TestExamples(t *testing.T) {
	got, e := Parent("/a/b")
	told(t, got, e, "/a", true, "Parent")
	got, e = Parent("/a")
	told(t, got, e, "/", true, "Parent")
	got, e = Name("/a/b")
	told(t, got, e, "b", true, "Name")
	numbered(t, "/q/t-00007", true, "/q/t-", 7)
	within(t, "/ab", "/a", false)
}
