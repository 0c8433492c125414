package pack

import (
	"bytes"
	"slices"
	"testing"

	"stanchion/api"
)

// roomy: the bytes s, with other bytes behind their length in their memory; and all that memory.
func roomy(s string) (b, all []byte) {
	all = append([]byte(s), "behind the length"...)
	return all[:len(s)], all
}

// spoil: all that b's memory holds is another, spare room too.
func spoil(b []byte) {
	b = b[:cap(b)]
	for i := range b {
		b[i] ^= 0x55
	}
}

// P1.4: what is handed in is as it was, and what was answered doesn't hang on it.
func TestReadMemory(t *testing.T) {
	const in = "\xac\x02rest"
	b, all := roomy(in)
	was := bytes.Clone(all)
	_, rest, _ := Read(b)
	spoil(rest)
	if !bytes.Equal(all, was) {
		t.Errorf("changed: %q", all)
	}
	v, rest, e := Read(b)
	spoil(all)
	if v != 300 || string(rest) != "rest" || e != api.OK {
		t.Error(v, rest, e)
	}
}

// P1.4
func TestReadMemoryOfNoRest(t *testing.T) {
	b, all := roomy("\x07")
	was := bytes.Clone(all)
	_, rest, _ := Read(b)
	spoil(rest)
	if _ = append(rest, "xyz"...); !bytes.Equal(all, was) {
		t.Errorf("changed: %q", all)
	}
}

// P1.4
func TestJoinMemory(t *testing.T) {
	for _, texts := range [][]string{{"one"}, {"one", "two"}, {"", "one"}, {"one", ""}} {
		var in, alls, were [][]byte
		for _, s := range texts {
			b, all := roomy(s)
			in, alls, were = append(in, b), append(alls, all), append(were, bytes.Clone(all))
		}
		b, _ := Join(in...)
		spoil(b)
		for i := range alls {
			if !bytes.Equal(alls[i], were[i]) || string(in[i]) != texts[i] {
				t.Errorf("%q changed: %q", texts, alls[i])
			}
		}
		b, _ = Join(in...)
		was := bytes.Clone(b)
		for i := range alls {
			spoil(alls[i])
		}
		if !bytes.Equal(b, was) {
			t.Errorf("%q: %q hangs on what was handed in", texts, b)
		}
	}
}

// P1.4
func TestSplitMemory(t *testing.T) {
	const in = "\x03one\x00\x03two\x01x"
	b, all := roomy(in)
	was := bytes.Clone(all)
	f, _ := Split(b)
	for i := range f {
		spoil(f[i])
	}
	if !bytes.Equal(all, was) {
		t.Errorf("changed: %q", all)
	}
	f, e := Split(b)
	spoil(all)
	if !slices.Equal(texts(f), []string{"one", "", "two", "x"}) || e != api.OK {
		t.Errorf("%q, %d", f, e)
	}
}

// P1.4, rule 5: no two lists of one answer share memory, spare room neither.
func TestSplitFieldsApart(t *testing.T) {
	want := []string{"one", "", "two", "x"}
	for i := range want {
		f, _ := Split([]byte("\x03one\x00\x03two\x01x"))
		spoil(f[i])
		_ = append(f[i], "more and more and more"...)
		for k := range f {
			if k != i && string(f[k]) != want[k] {
				t.Errorf("field %d hangs on %d: %q", k, i, f[k])
			}
		}
	}
}

// P1.4
func TestNumsMemory(t *testing.T) {
	all := []int{1, 300, 5, 6}
	b, _ := Nums(all[:2]...)
	_ = append(b, 9)
	if !slices.Equal(all, []int{1, 300, 5, 6}) {
		t.Error("changed: ", all)
	}
	all[0] = 7
	if string(b) != "\x01\xac\x02" {
		t.Error(b)
	}
}

// P1.4
func TestIntsMemory(t *testing.T) {
	b, all := roomy("\x01\xac\x02")
	was := bytes.Clone(all)
	l, _ := Ints(b)
	l[0] = 9
	if !bytes.Equal(all, was) {
		t.Errorf("changed: %q", all)
	}
	l, _ = Ints(b)
	spoil(all)
	if !slices.Equal(l, []int{1, 300}) {
		t.Error(l)
	}
}

// P1.4, P2: two answers have nothing in common, and hang on the arguments alone.
func TestAnswersApart(t *testing.T) {
	for _, call := range []func() []byte{
		func() []byte { b, _ := Num(0); return b },
		func() []byte { b, _ := Num(300); return b },
		func() []byte { _, b, _ := Read([]byte("\x01rest")); return b },
		func() []byte { b, _ := Join([]byte("ab"), nil); return b },
		func() []byte { f, _ := Split([]byte("\x02ab")); return f[0] },
		func() []byte { b, _ := Nums(1, 300); return b },
	} {
		first := call()
		was := bytes.Clone(first)
		second := call()
		spoil(first)
		if third := call(); !bytes.Equal(second, was) || !bytes.Equal(third, was) {
			t.Errorf("%q, then %q, then %q", was, second, third)
		}
	}
}
