package snap

import (
	"bytes"
	"fmt"
	"slices"
	"testing"

	"stanchion/api"
	"stanchion/apply"
)

// images: some that a space can be.
func images() []api.Image {
	return []api.Image{empty(), little(), full(), with(1), with(latest, 0, 1, 127, 128, 20_000)}
}

// P14.1: what begins like bytes of an image, or has them in it, isn't them.
func TestReadMoreAndLess(t *testing.T) {
	for i, m := range images() {
		b, _ := otherBytes(m)
		if !whole(t, b) {
			t.Errorf("image %d is none", i)
		}
		// Of many bytes not each.
		for k := 0; k < len(b); k += 1 + len(b)/500 {
			nothing(t, fmt.Sprint("cut off at ", k), b[:k])
			nothing(t, fmt.Sprint("cut off up to ", k), b[k+1:])
		}
		for _, more := range []string{"\x00", "\x01", "\x80", "\x01\x00"} {
			nothing(t, "more behind it", append(bytes.Clone(b), more...))
			nothing(t, "more ahead of it", append([]byte(more), b...))
		}
		nothing(t, "in a field", otherJoin(b))
		nothing(t, "twice", append(bytes.Clone(b), b...))
	}
}

// P14.1: each byte counts.
func TestReadEachByte(t *testing.T) {
	for _, m := range []api.Image{empty(), little()} {
		b, _ := otherBytes(m)
		for i := range b {
			other := bytes.Clone(b)
			for c := range 256 {
				other[i] = byte(c)
				whole(t, other)
			}
			for c := range 256 {
				whole(t, slices.Insert(bytes.Clone(b), i, byte(c)))
			}
			whole(t, slices.Delete(bytes.Clone(b), i, i+1))
		}
	}
}

// P14.1: a field more, or less, or in another's place.
func TestReadFields(t *testing.T) {
	for _, m := range []api.Image{little(), full()} {
		fields, _ := otherFields(m)
		for i := range fields {
			nothing(t, "a field less", otherJoin(slices.Delete(slices.Clone(fields), i, i+1)...))
			for _, more := range [][]byte{fields[i], {}, {0}} {
				nothing(t, "a field more", otherJoin(slices.Insert(slices.Clone(fields), i, more)...))
			}
			for k := range i {
				list := slices.Clone(fields)
				list[i], list[k] = list[k], list[i]
				// Watches and events are alike.
				if whole(t, otherJoin(list...)) != (i == 3 && k == 2 && len(m.Leaves) == 2) {
					t.Errorf("the fields %d and %d in one another's places", i, k)
				}
			}
		}
		nothing(t, "a field behind all", otherJoin(append(slices.Clone(fields), nil)...))
	}
}

// P14.1: in each field's place, bytes that are no field of that kind; of none of the lists there may be any.
func TestReadWrongFields(t *testing.T) {
	wrong := []string{
		"", "\x00", "\x80", "\x80\x00", "\x00\x00", "\x01\x01", "\x01\x02\x03", "\x01\x02\x80", "\x81\x00\x02", "\x01\x82\x00",
		"\x80\x80\x80\x80\x80\x20", "\xff\xff\xff\xff\xff\xff\xff\xff\x3f", "\xff\xff\xff\xff\xff\xff\xff\xff\x40", "\x03\x03\x01\x00",
	}
	good := map[int][]string{0: {"\x00\x00", "\x01\x01"}, 2: {""}, 3: {""}, 4: {"", "\x01\x02\x03"}, 5: {""}}
	for i := range 6 {
		for _, b := range wrong {
			fields, _ := otherFields(little())
			fields[i] = []byte(b)
			if whole(t, otherJoin(fields...)) != slices.Contains(good[i], b) {
				t.Errorf("field %d: %q", i, b)
			}
		}
	}
}

// P14.1: a list's fields have just so many fields and numbers.
func TestReadWrongLists(t *testing.T) {
	root := "\x01/\x00\x04\x00\x00\x00\x00"
	for _, x := range []struct {
		field int
		one   string
		good  bool
	}{
		{1, root, true},
		{1, root + "\x00", false},
		{1, "\x01/\x00", false},
		{1, "\x01/\x04\x00\x00\x00\x00", false},
		{1, "\x00\x01/\x04\x00\x00\x00\x00", false},
		{1, "\x04\x00\x00\x00\x00\x01/\x00", false},
		{1, "\x01/\x00\x03\x00\x00\x00", false},
		{1, "\x01/\x00\x05\x00\x00\x00\x00\x00", false},
		{1, "\x01/\x00\x05\x80\x00\x00\x00\x00", false},
		{1, "\x01/\x80\x00\x04\x00\x00\x00\x00", false},
		{1, "\x81\x00/\x00\x04\x00\x00\x00\x00", false},
		{1, "\x01/\x00\x04\x00\x00\x00\x80", false},
		{1, "\x01/\x00\x04\x00\x01\x00\x00", false},
		{1, "\x01/\x00\x0c\xff\xff\xff\xff\xff\xff\xff\xff\x3f\x00\x00\x00", true},
		{1, "\x01/\x00\x0c\xff\xff\xff\xff\xff\xff\xff\xff\x40\x00\x00\x00", false},
		{1, "", false},
		{2, "\x02\x01\x01\x01/", true},
		{2, "\x02\x01\x01\x01/\x00", false},
		{2, "\x02\x01\x01", false},
		{2, "\x01/\x02\x01\x01", false},
		{2, "\x01\x01\x01/", false},
		{2, "\x03\x01\x01\x00\x01/", false},
		{2, "\x03\x81\x00\x01\x01/", false},
		{2, "\x02\x08\x01\x01/", false},
		{2, "", false},
		{5, "\x02\x01\x01\x01/", true},
		{5, "\x02\x01\x01\x00", true},
		{5, "\x02\x01\x01", false},
		{5, "\x02\x01\x01\x00\x00", false},
		{5, "\x01\x01\x00", false},
		{5, "\x03\x01\x01\x01\x00", false},
		{5, "\x03\x01\x81\x00\x00", false},
		{5, "\x02\x01\x01\x80\x00", false},
		{5, "\x02\x01\x00\x00", false},
		{5, "", false},
	} {
		list := otherJoin([]byte(x.one))
		// Events are as watches are.
		for _, i := range map[int][]int{1: {1}, 2: {2, 3}, 5: {5}}[x.field] {
			fields, _ := otherFields(empty())
			fields[i] = list
			if whole(t, otherJoin(fields...)) != x.good {
				t.Errorf("field %d, of %q alone", i, x.one)
			}
			for _, more := range []string{"\x80", "\x02", "\x00"} {
				fields[i] = append(bytes.Clone(list), more...)
				nothing(t, "more in the list", otherJoin(fields...))
			}
		}
	}
}

// P14.1: the sessions' numbers are three of each.
func TestReadSessions(t *testing.T) {
	numbers := []byte{0, 1, 5, 3, 1, 5, 4, 1, 5, 6, 1, 5}
	for n := range len(numbers) + 1 {
		fields, _ := otherFields(empty())
		fields[4] = numbers[:n]
		b := otherJoin(fields...)
		if whole(t, b) != (n%3 == 0) {
			t.Errorf("%d numbers", n)
		}
		if m, _ := Read(b); n%3 == 0 && len(m.Sessions) != n/3 {
			t.Errorf("of %d numbers: %s", n, text(m.Sessions))
		}
	}
}

// P14.1, P1: fields, and fields within them, that are too many or too long.
func TestReadLong(t *testing.T) {
	for i := range 6 {
		for _, b := range [][]byte{
			make([]byte, 1024), make([]byte, 1025), make([]byte, 65536), make([]byte, 65537), make([]byte, 1<<20),
			bytes.Repeat([]byte{255}, 65537), bytes.Repeat([]byte{1}, 65536), otherJoin(make([]byte, 65536)), otherJoin(make([]byte, 65537)),
		} {
			fields, _ := otherFields(little())
			fields[i] = b
			nothing(t, fmt.Sprintf("%d bytes in the field %d", len(b), i), otherJoin(fields...))
			nothing(t, "bytes", b)
		}
	}
}

// P14.2: Back of what Read refuses because no space can be it.
func TestBackNoSpace(t *testing.T) {
	m := full()
	m.Leaves[2].Owner = 3
	b, ok := otherBytes(m)
	if s, e := Back(b); !ok || s != nil || e != api.ErrSnap {
		t.Errorf("%t, %d", ok, e)
	}
	if apply.New().Load(m) {
		t.Error("a space can be it")
	}
}
