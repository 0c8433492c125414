package disk

import (
	"bytes"
	"slices"
	"testing"
)

// roomy: the bytes s, with other bytes behind their length in their memory; and all that memory.
func roomy(s string) (b, all []byte) {
	all = append([]byte(s), "behind the length"...)
	return all[:len(s)], all
}

// spoil: all that b's memory holds is another, spare room too.
func spoil(b []byte) {
	b = b[:cap(b)]
	for i := range b {
		b[i] ^= 0x55
	}
}

// P4.4: parts are as they were, and aren't kept.
func TestAppendMemory(t *testing.T) {
	for _, texts := range [][]string{{"one"}, {"one", "two"}, {"", "one", ""}, {"one", "one", "one"}} {
		var parts, alls, were [][]byte
		for _, s := range texts {
			b, all := roomy(s)
			parts, alls, were = append(parts, b), append(alls, all), append(were, bytes.Clone(all))
		}
		want := string(bytes.Join(parts, nil))
		d := New(-1)
		does(t, d.Append(0, parts...), d.Append(1, parts...), d.Append(1, []byte("more")), d.Trim(1, len(want)), d.Append(1, []byte("other")))
		for i := range alls {
			if !bytes.Equal(alls[i], were[i]) || string(parts[i]) != texts[i] {
				t.Errorf("%q changed: %q", texts, alls[i])
			}
			spoil(alls[i])
		}
		clear(parts)
		holds(t, "spoiled", d, want, want+"other")
	}
}

// P4.4: a part that is there twice, and parts that were read.
func TestAppendSameMemory(t *testing.T) {
	d := New(-1)
	b := []byte("ab")
	does(t, d.Append(0, b, b, b[:1]))
	read, _ := d.Read(0)
	does(t, d.Append(0, read, read[1:2]), d.Append(1, read))
	holds(t, "same", d, "ababaababab", "ababa")
}

// P4.4: what is read is new memory: it hangs on nothing that comes, and nothing hangs on it.
func TestReadMemory(t *testing.T) {
	d := filled(t, -1)
	first, _ := d.Read(0)
	second, _ := d.Read(0)
	spoil(first)
	_ = append(first, "more and more and more"...)
	if string(second) != "abcdef" {
		t.Errorf("%q", second)
	}
	holds(t, "spoiled", d, "abcdef", "uvwx")
	does(t, d.Trim(0, 1), d.Append(0, []byte("ZZZZZZZZ")))
	if string(second) != "abcdef" {
		t.Errorf("read, then %q", second)
	}
	third, _ := d.Read(0)
	_ = append(third[:1], "YYYY"...)
	_ = append(third, "more"...)
	does(t, d.Append(0, []byte("x")))
	holds(t, "spoiled again", d, "aZZZZZZZZx", "uvwx")
}

// P4.4, rule 5: what stood there once isn't in an answer's spare room.
func TestReadSpareRoom(t *testing.T) {
	d := New(-1)
	does(t, d.Append(0, bytes.Repeat([]byte("s"), 100)), d.Sync(), d.Trim(0, 5))
	for _, x := range []*Disk{d, d.Crash(nil, -1)} {
		b, _ := x.Read(0)
		if room := b[len(b):cap(b)]; bytes.Contains(room, []byte("s")) {
			t.Errorf("spare room %q", room)
		}
	}
}

// P4.4: the numbers of areas, and of what is kept, are as they were, and aren't kept.
func TestNumbersMemory(t *testing.T) {
	all := []int{1, 1, 0, 7, 8}
	was := slices.Clone(all)
	d := filled(t, -1)
	does(t, d.Sync(all[:3]...))
	if d.Sync(all...) == 0 || !slices.Equal(all, was) {
		t.Error(all)
	}
	d = filled(t, -1)
	left := d.Crash(all[:1], -1)
	if !slices.Equal(all, was) {
		t.Error(all)
	}
	clear(all)
	// What lies behind the length isn't a second number.
	holds(t, "left", left, "abcd", "uv")
}

// P4.4: two disks have nothing in common, one that a loss has left and the lost one neither.
func TestDisksApart(t *testing.T) {
	for _, keeps := range [][]int{nil, {1, 1}, {9, 9}} {
		d := filled(t, -1)
		a, b := d.Crash(keeps, -1), d.Crash(keeps, -1)
		want := make([]string, 2)
		for i := range want {
			read, _ := a.Read(i)
			want[i] = string(read)
		}
		does(t, d.Trim(0, 0), d.Append(0, []byte("QQQQQQQQ")), d.Append(1, []byte("QQ")), d.Sync())
		holds(t, "left", a, want...)
		does(t, a.Trim(0, 1), a.Append(0, []byte("PPPPPPP")), a.Append(1, []byte("P")), a.Sync())
		holds(t, "lost", d, "QQQQQQQQ", "uvwxQQ")
		holds(t, "other", b, want...)
		leaves(t, "other", b, want...)
	}
}

// P4.4: what is done to one area, or one new disk, isn't done to another.
func TestNewApart(t *testing.T) {
	a, b := New(1), New(1)
	does(t, a.Append(0, []byte("a")), b.Append(1, []byte("b")))
	holds(t, "first", a, "a", "")
	holds(t, "second", b, "", "b")
}
