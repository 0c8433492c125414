package sha

import (
	"bytes"
	"testing"
)

// lay: parts in one memory, with other bytes behind each, where its spare room is; and all that memory.
func lay(texts ...string) (parts [][]byte, all []byte) {
	for _, s := range texts {
		all = append(append(all, s...), "behind"...)
	}
	at := 0
	for _, s := range texts {
		parts = append(parts, all[at:at+len(s)])
		at += len(s) + len("behind")
	}
	return parts, all
}

// spoil: every byte of b becomes another one, those of its spare room too.
func spoil(b []byte) {
	for i := range b[:cap(b)] {
		b[:cap(b)][i]++
	}
}

// P2.2: what is handed in is as it was, and what was answered doesn't hang on it.
func TestSumMemory(t *testing.T) {
	long := string(noise(1000))
	for _, texts := range [][]string{{""}, {"abc"}, {long}, {"abc", long}, {long, "abc", ""}, {long[:55], long[55:64], long[64:]}} {
		parts, all := lay(texts...)
		was := bytes.Clone(all)
		sum := Sum(parts...)
		want := bytes.Clone(sum)
		spoil(all)
		if !bytes.Equal(sum, want) {
			t.Errorf("%d parts: the digest hangs on what was handed in", len(texts))
		}
		copy(all, was)
		spoil(Sum(parts...))
		if !bytes.Equal(all, was) {
			t.Errorf("%d parts: what was handed in changed", len(texts))
		}
		for i, s := range texts {
			if string(parts[i]) != s {
				t.Errorf("part %d of %d changed", i, len(texts))
			}
		}
	}
}

// P2.2, rule 5: the list of the parts is as it was, also behind its length.
func TestSumListOfParts(t *testing.T) {
	all := [][]byte{[]byte("one"), []byte("two"), []byte("behind"), nil}
	Sum(all[:2]...)
	for i, want := range []string{"one", "two", "behind", ""} {
		if string(all[i]) != want {
			t.Errorf("part %d: %q", i, all[i])
		}
	}
}

// P2.2: a digest may be handed in again.
func TestSumOfSum(t *testing.T) {
	one := Sum([]byte("abc"))
	was := bytes.Clone(one)
	two := Sum(one)
	want := bytes.Clone(two)
	spoil(one)
	if !bytes.Equal(two, want) {
		t.Errorf("%x hangs on the digest that it is of", two)
	}
	copy(one, was)
	spoil(Sum(one))
	if !bytes.Equal(one, was) {
		t.Errorf("%x, not %x", one, was)
	}
}

// P2.2, P2: two answers have nothing in common, and hang on the arguments alone.
func TestSumsApart(t *testing.T) {
	for _, b := range [][]byte{nil, []byte("abc"), noise(1000)} {
		first := Sum(b)
		was := bytes.Clone(first)
		second := Sum(b)
		spoil(first)
		_ = append(first, "more and more and more"...)
		if third := Sum(b); !bytes.Equal(second, was) || !bytes.Equal(third, was) {
			t.Errorf("%x, then %x, then %x", was, second, third)
		}
	}
}

// P2.2
func TestHexMemory(t *testing.T) {
	parts, all := lay("\x00\xff\x10")
	was := bytes.Clone(all)
	text := Hex(parts[0])
	if !bytes.Equal(all, was) {
		t.Errorf("changed: %q", all)
	}
	spoil(all)
	if text != "00ff10" {
		t.Errorf("%q hangs on what was handed in", text)
	}
}
