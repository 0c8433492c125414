package pack

import (
	"bytes"
	"math"
	"math/rand"
	"slices"
	"strings"
	"testing"

	"stanchion/api"
)

// written: numbers and their one way of being written.
var written = []struct {
	v int
	b string
}{
	{0, "\x00"},
	{1, "\x01"},
	{63, "\x3f"},
	{64, "\x40"},
	{127, "\x7f"},
	{128, "\x80\x01"},
	{129, "\x81\x01"},
	{255, "\xff\x01"},
	{256, "\x80\x02"},
	{300, "\xac\x02"},
	{1<<14 - 1, "\xff\x7f"},
	{1 << 14, "\x80\x80\x01"},
	{api.MaxField, "\x80\x80\x04"},
	{1<<21 - 1, "\xff\xff\x7f"},
	{1 << 21, "\x80\x80\x80\x01"},
	{1 << 28, "\x80\x80\x80\x80\x01"},
	{1 << 35, "\x80\x80\x80\x80\x80\x01"},
	{api.MaxWide, "\x80\x80\x80\x80\x80\x20"},
	{1 << 42, "\x80\x80\x80\x80\x80\x80\x01"},
	{1 << 49, "\x80\x80\x80\x80\x80\x80\x80\x01"},
	{1<<56 - 1, "\xff\xff\xff\xff\xff\xff\xff\x7f"},
	{1 << 56, "\x80\x80\x80\x80\x80\x80\x80\x80\x01"},
	{1 << 61, "\x80\x80\x80\x80\x80\x80\x80\x80\x20"},
	{api.MaxNum - 2, "\xfe\xff\xff\xff\xff\xff\xff\xff\x3f"},
	{api.MaxNum - 1, "\xff\xff\xff\xff\xff\xff\xff\xff\x3f"},
}

// unwritable: numbers that have no bytes.
var unwritable = []int{-1, -2, -127, -128, -300, math.MinInt32, math.MinInt64, math.MinInt64 + 1, -api.MaxNum, api.MaxNum, api.MaxNum + 1, math.MaxInt64 - 1, math.MaxInt64}

// unreadable: bytes that no number begins, and the first fault in them.
var unreadable = []struct {
	b string
	e api.Errno
}{
	{"", api.ErrShort},
	{"\x80", api.ErrShort},
	{"\xff", api.ErrShort},
	{"\x80\x80", api.ErrShort},
	{strings.Repeat("\x80", 8), api.ErrShort},
	{strings.Repeat("\xff", 8), api.ErrShort},
	{"\x80\x00", api.ErrForm},
	{"\xff\x00", api.ErrForm},
	{"\x80\x00\x01", api.ErrForm},
	{"\xac\x82\x00", api.ErrForm},
	{strings.Repeat("\xff", 7) + "\x00", api.ErrForm},
	// The ninth group: 0, too great, not the last one, and both of these.
	{strings.Repeat("\xff", 8) + "\x00", api.ErrForm},
	{strings.Repeat("\xff", 8) + "\x40", api.ErrForm},
	{strings.Repeat("\x80", 8) + "\x40", api.ErrForm},
	{strings.Repeat("\xff", 8) + "\x7f", api.ErrForm},
	{strings.Repeat("\x80", 8) + "\x80", api.ErrForm},
	{strings.Repeat("\x80", 8) + "\x81\x01", api.ErrForm},
	{strings.Repeat("\x80", 8) + "\xbf", api.ErrForm},
	{strings.Repeat("\x80", 8) + "\xc0", api.ErrForm},
	{strings.Repeat("\x80", 8) + "\xff\x01", api.ErrForm},
	{strings.Repeat("\x80", 100), api.ErrForm},
}

// P1.1
func TestNumWrites(t *testing.T) {
	for _, w := range written {
		if b, e := Num(w.v); string(b) != w.b || e != api.OK {
			t.Errorf("Num(%d): %q, %d", w.v, b, e)
		}
	}
}

// P1.1, P1.4
func TestNumRefuses(t *testing.T) {
	for _, v := range unwritable {
		if b, e := Num(v); len(b) != 0 || e != api.ErrNum {
			t.Errorf("Num(%d): %q, %d", v, b, e)
		}
	}
}

// P1.1
func TestReadReads(t *testing.T) {
	for _, w := range written {
		for _, behind := range []string{"", "\x00", "\x80", "\x09\x80\x00", strings.Repeat("\xff", 20)} {
			v, rest, e := Read([]byte(w.b + behind))
			if v != w.v || string(rest) != behind || e != api.OK {
				t.Errorf("Read(%q and %q): %d, %q, %d", w.b, behind, v, rest, e)
			}
		}
	}
}

// P1.1, P1.4
func TestReadRefuses(t *testing.T) {
	for _, u := range unreadable {
		if v, rest, e := Read([]byte(u.b)); v != 0 || len(rest) != 0 || e != u.e {
			t.Errorf("Read(%q): %d, %q, %d", u.b, v, rest, e)
		}
	}
	if v, rest, e := Read(nil); v != 0 || len(rest) != 0 || e != api.ErrShort {
		t.Errorf("Read(nil): %d, %q, %d", v, rest, e)
	}
}

// P1.1: the first fault, byte by byte: what stands behind it doesn't tell.
func TestReadFirstFault(t *testing.T) {
	for _, u := range unreadable {
		if u.e != api.ErrForm {
			continue
		}
		for _, behind := range []string{"\x00", "\x01", "\x80", "\xff\xff"} {
			if _, _, e := Read([]byte(u.b + behind)); e != api.ErrForm {
				t.Errorf("Read(%q and %q): %d", u.b, behind, e)
			}
		}
	}
}

// readByWords: Read, as the chapter's words go, with a number's value made from its highest group downwards.
func readByWords(b []byte) (int, []byte, api.Errno) {
	n := 0
	for n < len(b) && b[n] >= 128 {
		if n == 8 {
			return 0, nil, api.ErrForm
		}
		n++
	}
	switch {
	case n == len(b):
		return 0, nil, api.ErrShort
	case n == 8 && b[n] > 63, n > 0 && b[n] == 0:
		return 0, nil, api.ErrForm
	}
	v := 0
	for _, c := range slices.Backward(b[:n+1]) {
		v = v*128 + int(c&127)
	}
	return v, b[n+1:], api.OK
}

// checkRead: Read of b is what the words say, and each number that it reads is written just so.
func checkRead(t *testing.T, b []byte) {
	t.Helper()
	v, rest, e := Read(b)
	wantV, wantRest, wantE := readByWords(b)
	if v != wantV || !bytes.Equal(rest, wantRest) || e != wantE {
		t.Fatalf("Read(%q): %d, %q, %d; not %d, %q, %d", b, v, rest, e, wantV, wantRest, wantE)
	}
	if e != api.OK {
		return
	}
	if back, e := Num(v); !bytes.Equal(back, b[:len(b)-len(rest)]) || e != api.OK {
		t.Fatalf("Num(%d): %q, %d; read from %q", v, back, e, b)
	}
}

// P1.1: each number in just one way.
func TestReadShortBytes(t *testing.T) {
	for x := range 1 << 8 {
		checkRead(t, []byte{byte(x)})
	}
	for x := range 1 << 16 {
		checkRead(t, []byte{byte(x), byte(x >> 8)})
	}
}

// P1.1: around the ninth group.
func TestReadLongBytes(t *testing.T) {
	ends := []byte{0, 1, 62, 63, 64, 65, 127, 128, 129, 190, 191, 192, 193, 255}
	for n := range 10 {
		for _, c := range []byte{0x80, 0x81, 0xff} {
			for _, x := range ends {
				for _, y := range ends {
					for _, z := range ends {
						checkRead(t, append(bytes.Repeat([]byte{c}, n), x, y, z))
					}
				}
			}
		}
	}
}

// P1.1: Read reads what Num writes, over all sizes of numbers.
func TestNumRead(t *testing.T) {
	r := rand.New(rand.NewSource(1))
	for range 100000 {
		v := int(r.Uint64() >> (2 + r.Intn(62)))
		b, e := Num(v)
		if e != api.OK {
			t.Fatal(v, e)
		}
		if x, rest, e := Read(b); x != v || len(rest) != 0 || e != api.OK {
			t.Fatal(v, b, x, rest, e)
		}
	}
}

// texts: fields as texts, to be held against others.
func texts(fields [][]byte) []string {
	var list []string
	for _, f := range fields {
		list = append(list, string(f))
	}
	return list
}

// fields: texts as fields.
func fields(list ...string) [][]byte {
	var out [][]byte
	for _, s := range list {
		out = append(out, []byte(s))
	}
	return out
}

// lists: fields, and the list that they are.
var lists = []struct {
	fields []string
	b      string
}{
	{nil, ""},
	{[]string{""}, "\x00"},
	{[]string{"", "", ""}, "\x00\x00\x00"},
	{[]string{"a"}, "\x01a"},
	{[]string{"ab", ""}, "\x02ab\x00"},
	{[]string{"", "ab"}, "\x00\x02ab"},
	{[]string{"\x00"}, "\x01\x00"},
	{[]string{"\x80", "\xff\x00"}, "\x01\x80\x02\xff\x00"},
	{[]string{strings.Repeat("x", 127)}, "\x7f" + strings.Repeat("x", 127)},
	{[]string{strings.Repeat("x", 128), "y"}, "\x80\x01" + strings.Repeat("x", 128) + "\x01y"},
	{[]string{strings.Repeat("x", 300)}, "\xac\x02" + strings.Repeat("x", 300)},
	{[]string{strings.Repeat("x", 16384), ""}, "\x80\x80\x01" + strings.Repeat("x", 16384) + "\x00"},
	{[]string{strings.Repeat("x", 65535)}, "\xff\xff\x03" + strings.Repeat("x", 65535)},
	{[]string{strings.Repeat("x", 65536)}, "\x80\x80\x04" + strings.Repeat("x", 65536)},
	{make([]string, 1024), strings.Repeat("\x00", 1024)},
}

// P1.2
func TestJoinSplit(t *testing.T) {
	for _, l := range lists {
		if b, e := Join(fields(l.fields...)...); string(b) != l.b || e != api.OK {
			t.Errorf("Join of %d fields: %.20q of %d bytes, %d", len(l.fields), b, len(b), e)
		}
		if f, e := Split([]byte(l.b)); !slices.Equal(texts(f), l.fields) || e != api.OK {
			t.Errorf("Split(%.20q of %d bytes): %.20q, %d", l.b, len(l.b), f, e)
		}
	}
}

// P1.2, rule 1
func TestJoinSplitNil(t *testing.T) {
	if b, e := Join(); len(b) != 0 || e != api.OK {
		t.Error(b, e)
	}
	if b, e := Join([][]byte{}...); len(b) != 0 || e != api.OK {
		t.Error(b, e)
	}
	if b, e := Join(nil, []byte{}); string(b) != "\x00\x00" || e != api.OK {
		t.Error(b, e)
	}
	for _, b := range [][]byte{nil, {}} {
		if f, e := Split(b); len(f) != 0 || e != api.OK {
			t.Error(f, e)
		}
	}
}

// P1.2, P1.4
func TestJoinRefuses(t *testing.T) {
	long := make([]byte, api.MaxField+1)
	for name, f := range map[string][][]byte{
		"a field too many":       make([][]byte, api.MaxParts+1),
		"many fields too many":   make([][]byte, 10*api.MaxParts),
		"a field too long":       {long},
		"the first one too long": {long, nil},
		"the last one too long":  {nil, []byte("a"), long},
		"last of all too long":   append(make([][]byte, api.MaxParts-1), long),
		"both":                   append(make([][]byte, api.MaxParts), long),
	} {
		if b, e := Join(f...); len(b) != 0 || e != api.ErrLong {
			t.Errorf("%s: %d bytes, %d", name, len(b), e)
		}
	}
}

// P1.2: the limits are of the fields one by one, not of the list.
func TestJoinGreatest(t *testing.T) {
	full := bytes.Repeat([]byte("z"), api.MaxField)
	all := make([][]byte, api.MaxParts)
	for i := range all {
		all[i] = full
	}
	b, e := Join(all...)
	if len(b) != api.MaxParts*(api.MaxField+3) || e != api.OK {
		t.Fatal(len(b), e)
	}
	f, e := Split(b)
	if len(f) != api.MaxParts || e != api.OK {
		t.Fatal(len(f), e)
	}
	for i := range f {
		if !bytes.Equal(f[i], full) {
			t.Fatal(i, len(f[i]))
		}
	}
}

// P1.2, P1.4
func TestSplitRefuses(t *testing.T) {
	zeros := strings.Repeat("\x00", api.MaxParts)
	for _, x := range []struct {
		b string
		e api.Errno
	}{
		// Read's errors, in the first field and later ones.
		{"\x80", api.ErrShort},
		{"\x80\x00", api.ErrForm},
		{strings.Repeat("\xff", 8) + "\x40", api.ErrForm},
		{"\x01a\x80", api.ErrShort},
		{"\x01a\x80\x00", api.ErrForm},
		{"\x01a\x81\x00b", api.ErrForm},
		{zeros[1:] + "\x80", api.ErrShort},
		// The count, whether or not the bytes are there.
		{"\x81\x80\x04", api.ErrLong},
		{"\x81\x80\x04" + strings.Repeat("x", 65537), api.ErrLong},
		{"\x02ab\x81\x80\x04", api.ErrLong},
		{"\xff\xff\xff\xff\xff\xff\xff\xff\x3f", api.ErrLong},
		{zeros[1:] + "\x81\x80\x04", api.ErrLong},
		// Too few bytes.
		{"\x01", api.ErrShort},
		{"\x02a", api.ErrShort},
		{"\x01a\x02b", api.ErrShort},
		{"\x80\x80\x04", api.ErrShort},
		{"\x80\x80\x04" + strings.Repeat("x", 65535), api.ErrShort},
		{zeros[1:] + "\x01", api.ErrShort},
		// A field too many, at its beginning: whatever is wrong with it.
		{zeros + "\x00", api.ErrLong},
		{zeros + "\x01a", api.ErrLong},
		{zeros + "\x01", api.ErrLong},
		{zeros + "\x80", api.ErrLong},
		{zeros + "\x80\x00", api.ErrLong},
		{zeros + zeros, api.ErrLong},
		// The first field's error comes ahead of a later one's.
		{"\x80\x00\x81\x80\x04", api.ErrForm},
		{"\x05ab\x80\x00", api.ErrShort},
		{"\x80\x00" + zeros + "\x00", api.ErrForm},
	} {
		if f, e := Split([]byte(x.b)); len(f) != 0 || e != x.e {
			t.Errorf("Split(%.20q of %d bytes): %d fields, %d", x.b, len(x.b), len(f), e)
		}
	}
}

// P1.2: a list's beginning is a list only where a field ends.
func TestSplitBeginnings(t *testing.T) {
	b, _ := Join([]byte("ab"), nil, bytes.Repeat([]byte("c"), 200), []byte("d"))
	ends := map[int]int{0: 0, 3: 1, 4: 2, 206: 3, 208: 4}
	for i := range len(b) + 1 {
		f, e := Split(b[:i])
		n, whole := ends[i]
		if whole && (len(f) != n || e != api.OK) || !whole && (len(f) != 0 || e != api.ErrShort) {
			t.Error(i, len(f), e)
		}
	}
}

// P1.2: what Split answers is what Join answers b of, at all bytes.
func TestSplitJoin(t *testing.T) {
	r := rand.New(rand.NewSource(2))
	good := 0
	for range 200000 {
		b := make([]byte, r.Intn(12))
		for i := range b {
			b[i] = []byte{0, 1, 2, 3, 128, 129, byte(r.Int())}[r.Intn(7)]
		}
		f, e := Split(b)
		if e != api.OK {
			if len(f) != 0 {
				t.Fatal(b, f, e)
			}
			continue
		}
		good++
		if back, e := Join(f...); !bytes.Equal(back, b) || e != api.OK {
			t.Fatal(b, f, back, e)
		}
	}
	if good < 1000 {
		t.Error("hardly any lists: ", good)
	}
}

// P1.3
func TestNumsInts(t *testing.T) {
	var all []int
	var bytesOfAll string
	for _, w := range written {
		all = append(all, w.v)
		bytesOfAll += w.b
	}
	for _, x := range []struct {
		list []int
		b    string
	}{
		{nil, ""},
		{[]int{0}, "\x00"},
		{[]int{0, 0, 0}, "\x00\x00\x00"},
		{[]int{1, 300}, "\x01\xac\x02"},
		{[]int{300, 1}, "\xac\x02\x01"},
		{[]int{api.MaxNum - 1, 0, api.MaxNum - 1}, "\xff\xff\xff\xff\xff\xff\xff\xff\x3f\x00\xff\xff\xff\xff\xff\xff\xff\xff\x3f"},
		{make([]int, 5000), strings.Repeat("\x00", 5000)}, // MaxParts is of fields
		{all, bytesOfAll},
	} {
		if b, e := Nums(x.list...); string(b) != x.b || e != api.OK {
			t.Errorf("Nums of %d: %.20q, %d", len(x.list), b, e)
		}
		if l, e := Ints([]byte(x.b)); !slices.Equal(l, x.list) || e != api.OK {
			t.Errorf("Ints(%.20q): %d numbers, %d", x.b, len(l), e)
		}
	}
}

// P1.3, rule 1
func TestNumsIntsNil(t *testing.T) {
	if b, e := Nums(); len(b) != 0 || e != api.OK {
		t.Error(b, e)
	}
	if b, e := Nums([]int{}...); len(b) != 0 || e != api.OK {
		t.Error(b, e)
	}
	for _, b := range [][]byte{nil, {}} {
		if l, e := Ints(b); len(l) != 0 || e != api.OK {
			t.Error(l, e)
		}
	}
}

// P1.3, P1.4
func TestNumsRefuses(t *testing.T) {
	for _, v := range unwritable {
		for _, list := range [][]int{{v}, {v, 1}, {1, 300, v}, {v, v}} {
			if b, e := Nums(list...); len(b) != 0 || e != api.ErrNum {
				t.Errorf("Nums of %d: %q, %d", list, b, e)
			}
		}
	}
}

// P1.3, P1.4
func TestIntsRefuses(t *testing.T) {
	for _, u := range unreadable {
		if u.b == "" {
			continue
		}
		for _, ahead := range []string{"", "\x00", "\x01\xac\x02"} {
			if l, e := Ints([]byte(ahead + u.b)); len(l) != 0 || e != u.e {
				t.Errorf("Ints(%q and %q): %d, %d", ahead, u.b, l, e)
			}
		}
	}
	// The first of several.
	for b, want := range map[string]api.Errno{"\x80\x00\x80": api.ErrForm, "\x01\x81\x00\x01\x80": api.ErrForm, "\x01\x80\x80": api.ErrShort} {
		if l, e := Ints([]byte(b)); len(l) != 0 || e != want {
			t.Errorf("Ints(%q): %d, %d", b, l, e)
		}
	}
}

// P1: long lists end soon.
func TestIntsLong(t *testing.T) {
	const n = 1 << 22
	b := bytes.Repeat([]byte{0xac, 2}, n)
	l, e := Ints(b)
	if len(l) != n || l[0] != 300 || l[n-1] != 300 || e != api.OK {
		t.Fatal(len(l), e)
	}
	if back, e := Nums(l...); !bytes.Equal(back, b) || e != api.OK {
		t.Fatal(len(back), e)
	}
}
