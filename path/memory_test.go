package path

import (
	"math/rand"
	"slices"
	"strings"
	"testing"
	"unsafe"

	"stanchion/api"
)

// borrowed: a text that stands in the bytes that are answered with it.
func borrowed(s string) (string, []byte) {
	b := []byte(s)
	return unsafe.String(unsafe.SliceData(b), len(b)), b
}

// spoil: all that b's memory holds is another, spare room too.
func spoil(b []byte) {
	b = b[:cap(b)]
	for i := range b {
		b[i] ^= 0x55
	}
}

// Rule 5: no text that is answered stands in the memory of one that was handed in.
func TestTextsMemory(t *testing.T) {
	for _, p := range paths {
		whole, b := borrowed(p)
		part, c := borrowed("part")
		parent, _ := Parent(whole)
		name, _ := Name(whole)
		parts, _ := Parts(whole)
		same, _ := Join(whole)
		more, _ := Join(whole, part)
		number, _ := Numbered(whole, 7)
		if string(b) != p || string(c) != "part" {
			t.Errorf("%q is changed to %q, %q", p, b, c)
		}
		spoil(b)
		spoil(c)
		wantParent, wantName, _ := otherCut(p)
		wantParts, _ := otherParts(p)
		wantMore, _ := otherJoin(p, "part")
		wantNumber, _ := otherNumbered(p, 7)
		if parent != wantParent || name != wantName || !slices.Equal(parts, wantParts) || same != p || more != wantMore || number != wantNumber {
			t.Errorf("of %q: %q, %q, %q, %q, %q, %q", p, parent, name, parts, same, more, number)
		}
	}
	part, b := borrowed("part")
	only, _ := Join("/", part)
	spoil(b)
	if only != "/part" {
		t.Errorf("%q", only)
	}
}

// Rule 5: the list of parts is as it was, what stands behind its length too.
func TestJoinMemory(t *testing.T) {
	for _, parent := range []string{"/", "/a", full, "", "/A"} {
		for n := range 40 {
			for _, behind := range []string{"x", "X", ""} {
				list := slices.Repeat([]string{"p"}, n)
				list = append(list, behind, behind)
				was := slices.Clone(list)
				first, e := Join(parent, list[:n]...)
				if !slices.Equal(list, was) {
					t.Errorf("%d parts: %q", n, list)
				}
				want, ok := otherJoin(parent, list[:n]...)
				told(t, first, e, want, ok, "Join(%q, %d parts)", parent, n)
				for i := range list {
					list[i] = "changed"
				}
				if first != want {
					t.Errorf("%d parts: then %q", n, first)
				}
			}
		}
	}
}

// Rule 5: two lists that are answered have nothing in common, spare room neither.
func TestPartsApart(t *testing.T) {
	for _, p := range paths {
		first, _ := Parts(p)
		second, _ := Parts(p)
		want, _ := otherParts(p)
		for _, spare := range first[len(first):cap(first)] {
			if spare != "" {
				t.Errorf("%q: spare %q", p, spare)
			}
		}
		_ = append(first, "more", "and", "more")
		whole := first[:cap(first)]
		for i := range whole {
			whole[i] = "changed"
		}
		third, _ := Parts(p)
		if !slices.Equal(second, want) || !slices.Equal(third, want) {
			t.Errorf("%q: %q, then %q", p, second, third)
		}
	}
}

// Rule 1: a nil list and an empty one are the same.
func TestNilIsEmpty(t *testing.T) {
	for _, p := range texts {
		a, e := Join(p, nil...)
		b, f := Join(p, []string{}...)
		if a != b || e != f || (e == api.OK) != (a == p && p != "") {
			t.Errorf("%s: %s, %d, or %s, %d", short(p), short(a), e, short(b), f)
		}
	}
}

// P2: an answer hangs on the arguments alone, not on the calls before.
func TestAlike(t *testing.T) {
	var were []string
	each := func(do func(i int, p, q string, n int)) {
		for i, p := range texts {
			do(i, p, []string{"a", "", "/", "/a", strings.Repeat("n", 16)}[i%5], []int{0, 7, 99999, -1, 100000, 12345}[i%6])
		}
	}
	each(func(_ int, p, q string, n int) { were = append(were, answers(p, q, n)) })
	for range 3 {
		each(func(i int, p, q string, n int) {
			if got := answers(p, q, n); got != were[i] {
				t.Errorf("%s: %s, then %s", short(p), were[i], got)
			}
		})
	}
}

// P1: any bytes and any numbers: every call answers, and what another implementation does.
func TestAnything(t *testing.T) {
	r := rand.New(rand.NewSource(9))
	letters := []string{"/", "/", "/", "a", "b", "z", "0", "-", "_", "A", "\x00", "\xff"}
	some := func(n, of int) string {
		var s strings.Builder
		for range r.Intn(n + 1) {
			s.WriteString(letters[r.Intn(of)])
		}
		return s.String()
	}
	for range 20000 {
		p, q := "/"+some(70, 9), some(20, len(letters))
		if r.Intn(2) == 0 {
			q = "/" + some(70, 9)
		}
		for strings.Contains(p, "//") && r.Intn(10) > 0 {
			p = strings.ReplaceAll(p, "//", "/")
		}
		single(t, p)
		single(t, q)
		want, ok := otherJoin(p, q)
		joined(t, want, ok, p, q)
		n := r.Intn(120000) - 10000
		want, ok = otherNumbered(p, n)
		numbered(t, want, ok, p, n)
		within(t, p, q, otherWithin(p, q))
		if i := r.Intn(len(p)); i > 0 {
			within(t, p, p[:i], otherWithin(p, p[:i]))
		}
	}
}
