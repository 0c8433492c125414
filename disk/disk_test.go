package disk

import (
	"bytes"
	"math"
	"strings"
	"testing"

	"stanchion/api"
)

// noAreas: numbers that are no area's, such as come to 0 or 1 in fewer bits or without their sign among them.
var noAreas = []int{-1, 2, -2, 3, 256, 257, 1 << 32, 1<<32 + 1, api.MaxNum, math.MinInt, math.MinInt + 1, math.MaxInt}

// holds: the areas read just these.
func holds(t *testing.T, what string, d *Disk, areas ...string) {
	t.Helper()
	for i, want := range areas {
		if b, e := d.Read(i); string(b) != want || e != api.OK {
			t.Errorf("%s: area %d reads %.20q of %d bytes, %d, not %.20q of %d", what, i, b, len(b), e, want, len(want))
		}
	}
}

// leaves: a loss of power that keeps nothing more leaves just these.
func leaves(t *testing.T, what string, d *Disk, areas ...string) {
	t.Helper()
	holds(t, what+", the power gone", d.Crash(nil, 0), areas...)
}

// does: no call has an error.
func does(t *testing.T, answers ...api.Errno) {
	t.Helper()
	for i, e := range answers {
		if e != api.OK {
			t.Errorf("call %d: %d", i, e)
		}
	}
}

// filled: a disk with "abcdef" in area 0, "abc" of it safe, and "uvwx" in area 1, "uv" of it safe. Two calls of its power, which isn't 0 or 1, are gone.
func filled(t *testing.T, power int) *Disk {
	t.Helper()
	d := New(-1)
	does(t, d.Append(0, []byte("abc")), d.Append(1, []byte("uv")), d.Sync())
	d = d.Crash(nil, power)
	does(t, d.Append(0, []byte("def")), d.Append(1, []byte("wx")))
	return d
}

// P4.2: a new disk has two areas, without bytes.
func TestNew(t *testing.T) {
	for _, power := range []int{math.MinInt, -1, 0, 1, math.MaxInt} {
		holds(t, "new", New(power), "", "")
		leaves(t, "new", New(power), "", "")
	}
}

// P4.1: ErrArea of each call, whatever the power; nothing is done, and nothing of the power taken.
func TestMissingAreas(t *testing.T) {
	for _, n := range noAreas {
		for _, power := range []int{-1, 3, 2} {
			d := filled(t, power)
			for name, e := range map[string]api.Errno{
				"Append":             d.Append(n, []byte("x")),
				"Append of nothing":  d.Append(n),
				"Trim":               d.Trim(n, 0),
				"Trim, further":      d.Trim(n, 1),
				"Trim, below 0":      d.Trim(n, -1),
				"Sync":               d.Sync(n),
				"Sync, the first":    d.Sync(n, 0),
				"Sync, the last":     d.Sync(0, 1, n),
				"Sync, in the midst": d.Sync(0, n, 1),
			} {
				if e != api.ErrArea {
					t.Errorf("%s of area %d, power %d: %d", name, n, power, e)
				}
			}
			if b, e := d.Read(n); len(b) != 0 || e != api.ErrArea {
				t.Errorf("Read(%d): %q, %d", n, b, e)
			}
			holds(t, "refused", d, "abcdef", "uvwx")
			leaves(t, "refused", d, "abc", "uv")
			if e := d.Sync(); e == api.OK != (power != 2) {
				t.Errorf("area %d: then Sync: %d", n, e)
			}
		}
	}
}

// P4.1: Trim to no place in the area.
func TestTrimPlaces(t *testing.T) {
	for _, x := range []struct {
		area, n int
		e       api.Errno
	}{
		{0, -1, api.ErrArea}, {0, 7, api.ErrArea}, {0, math.MinInt, api.ErrArea}, {0, math.MaxInt, api.ErrArea},
		{1, -1, api.ErrArea}, {1, 5, api.ErrArea}, {1, 6, api.ErrArea}, {1, 1 << 32, api.ErrArea},
		{0, 6, api.OK}, {0, 0, api.OK}, {1, 4, api.OK}, {1, 0, api.OK},
	} {
		d := filled(t, 3)
		if e := d.Trim(x.area, x.n); e != x.e {
			t.Errorf("Trim(%d, %d): %d", x.area, x.n, e)
		}
		if x.e != api.OK {
			holds(t, "refused", d, "abcdef", "uvwx")
			leaves(t, "refused", d, "abc", "uv")
		}
		if e := d.Sync(); e == api.OK != (x.e != api.OK) {
			t.Errorf("Trim(%d, %d), then Sync: %d", x.area, x.n, e)
		}
	}
	if d := New(1); d.Trim(0, 1) != api.ErrArea || d.Trim(0, 0) != api.OK {
		t.Error("Trim of no bytes")
	}
}

// calls: of each call that takes of the power, some that have no other error on a filled disk.
var calls = map[string]func(d *Disk) api.Errno{
	"Append":            func(d *Disk) api.Errno { return d.Append(0, []byte("x")) },
	"Append of nothing": func(d *Disk) api.Errno { return d.Append(1) },
	"Append, no bytes":  func(d *Disk) api.Errno { return d.Append(1, nil, []byte{}) },
	"Append of many":    func(d *Disk) api.Errno { return d.Append(1, []byte("x"), []byte("y"), []byte("z")) },
	"Trim":              func(d *Disk) api.Errno { return d.Trim(0, 1) },
	"Trim of nothing":   func(d *Disk) api.Errno { b, _ := d.Read(1); return d.Trim(1, len(b)) },
	"Sync":              func(d *Disk) api.Errno { return d.Sync() },
	"Sync of one":       func(d *Disk) api.Errno { return d.Sync(0) },
	"Sync of both":      func(d *Disk) api.Errno { return d.Sync(1, 0, 1) },
}

// P4.1: so many calls do something, each counts as one; those behind them answer ErrDown.
func TestPower(t *testing.T) {
	for name, call := range calls {
		for _, power := range []int{0, 1, 2, 3, 10} {
			d := filled(t, -1).Crash(nil, power)
			for i := range power + 5 {
				want := api.OK
				if i >= power {
					want = api.ErrDown
				}
				if e := call(d); e != want {
					t.Errorf("%s, power %d, call %d: %d", name, power, i, e)
				}
			}
		}
	}
}

// P4.1: all calls take of one and the same power.
func TestPowerOfAll(t *testing.T) {
	d := filled(t, -1).Crash(nil, len(calls))
	for name, call := range calls {
		if e := call(d); e != api.OK {
			t.Errorf("%s: %d", name, e)
		}
	}
	for name, call := range calls {
		if e := call(d); e != api.ErrDown {
			t.Errorf("%s: %d", name, e)
		}
	}
}

// P4.1: a power below 0, and a great one, are enough for all.
func TestPowerEnough(t *testing.T) {
	for _, power := range []int{-1, -2, math.MinInt, math.MaxInt, 1 << 32} {
		d := New(power)
		for i := range 2000 {
			if e := d.Append(i%2, []byte("x")); e != api.OK {
				t.Fatalf("power %d, call %d: %d", power, i, e)
			}
		}
		holds(t, "enough", d, strings.Repeat("x", 1000), strings.Repeat("x", 1000))
	}
}

// P4.1: without power nothing is done; ErrArea comes ahead of ErrDown; Read and Crash go on.
func TestPowerGone(t *testing.T) {
	d := filled(t, 2)
	for range 3 {
		for name, call := range calls {
			if e := call(d); e != api.ErrDown {
				t.Errorf("%s: %d", name, e)
			}
		}
		for i, e := range []api.Errno{d.Append(2), d.Append(-1, []byte("x")), d.Trim(0, 7), d.Trim(1, -1), d.Trim(2, 0), d.Sync(2), d.Sync(0, -1)} {
			if e != api.ErrArea {
				t.Errorf("%d: %d", i, e)
			}
		}
		if b, e := d.Read(2); len(b) != 0 || e != api.ErrArea {
			t.Errorf("%q, %d", b, e)
		}
		holds(t, "gone", d, "abcdef", "uvwx")
		holds(t, "gone", d.Crash([]int{1, 9}, 0), "abcd", "uvwx")
		leaves(t, "gone", d, "abc", "uv")
	}
}

// P4.1: Read and Crash take nothing of the power.
func TestReadTakesNoPower(t *testing.T) {
	d := New(2)
	for range 5 {
		d.Read(0)
		d.Read(2)
		d.Crash([]int{1}, 0)
	}
	does(t, d.Append(0, []byte("x")), d.Sync())
	if e := d.Sync(); e != api.ErrDown {
		t.Error(e)
	}
}

// P4.2: all parts stand behind the area's bytes, in order; they aren't safe; the other area is as it was.
func TestAppend(t *testing.T) {
	d := New(-1)
	does(t, d.Append(1, []byte("ab"), nil, []byte("c"), []byte{}, []byte("\x00\xff")))
	holds(t, "first", d, "", "abc\x00\xff")
	leaves(t, "first", d, "", "")
	does(t, d.Append(0), d.Append(1), d.Append(0, nil), d.Append(1, []byte{}, nil))
	holds(t, "nothing", d, "", "abc\x00\xff")
	does(t, d.Append(0, []byte("x")), d.Append(1, []byte("d")))
	holds(t, "more", d, "x", "abc\x00\xffd")
	does(t, d.Append(0, [][]byte{[]byte("y"), []byte("z")}...))
	holds(t, "list", d, "xyz", "abc\x00\xffd")
	leaves(t, "list", d, "", "")
}

// P4.2: many parts, and long ones: no limit of layer 1 holds here.
func TestAppendMuch(t *testing.T) {
	d := New(-1)
	parts := make([][]byte, 3*api.MaxParts)
	for i := range parts {
		parts[i] = []byte{byte(i), byte(i >> 8)}
	}
	long := bytes.Repeat([]byte("0123456789abcdef"), api.MaxField/4)
	does(t, d.Append(0, parts...), d.Append(1, long, long))
	holds(t, "much", d, string(bytes.Join(parts, nil)), string(long)+string(long))
	does(t, d.Sync(1))
	leaves(t, "much", d, "", string(long)+string(long))
}

// P4.2: the first n bytes stay, and of the safe ones those.
func TestTrim(t *testing.T) {
	for n := range 7 {
		d := filled(t, -1)
		does(t, d.Trim(0, n))
		holds(t, "trimmed", d, "abcdef"[:n], "uvwx")
		leaves(t, "trimmed", d, "abcdef"[:min(n, 3)], "uv")
		// What comes in the place of safe bytes isn't safe.
		does(t, d.Append(0, []byte("RSTUVW")))
		holds(t, "more", d, "abcdef"[:n]+"RSTUVW", "uvwx")
		leaves(t, "more", d, "abcdef"[:min(n, 3)], "uv")
		does(t, d.Trim(0, n))
		holds(t, "again", d, "abcdef"[:n], "uvwx")
		leaves(t, "again", d, "abcdef"[:min(n, 3)], "uv")
		does(t, d.Trim(1, 1), d.Sync(1))
		leaves(t, "both", d, "abcdef"[:min(n, 3)], "u")
	}
}

// P4.2: a Trim that no Sync follows isn't lost, whatever is kept.
func TestTrimLasts(t *testing.T) {
	d := filled(t, -1)
	does(t, d.Sync(), d.Trim(0, 2), d.Trim(1, 0))
	for _, keeps := range [][]int{nil, {0, 0}, {1, 1}, {99, 99}, {math.MaxInt, math.MaxInt}} {
		holds(t, "trimmed", d.Crash(keeps, -1), "ab", "")
	}
}

// P4.2: the bytes of these areas are safe, of both without any.
func TestSync(t *testing.T) {
	for _, x := range []struct {
		areas []int
		left  [2]string
	}{
		{nil, [2]string{"abcdef", "uvwx"}},
		{[]int{}, [2]string{"abcdef", "uvwx"}},
		{[]int{0}, [2]string{"abcdef", "uv"}},
		{[]int{1}, [2]string{"abc", "uvwx"}},
		{[]int{0, 1}, [2]string{"abcdef", "uvwx"}},
		{[]int{1, 0}, [2]string{"abcdef", "uvwx"}},
		{[]int{0, 0, 0}, [2]string{"abcdef", "uv"}},
		{[]int{1, 1}, [2]string{"abc", "uvwx"}},
		{[]int{1, 0, 1, 1}, [2]string{"abcdef", "uvwx"}},
	} {
		d := filled(t, -1)
		does(t, d.Sync(x.areas...))
		holds(t, "synced", d, "abcdef", "uvwx")
		leaves(t, "synced", d, x.left[:]...)
		// Safe is what stood there then, no more.
		does(t, d.Append(0, []byte("g")), d.Append(1, []byte("y")))
		leaves(t, "more", d, x.left[:]...)
	}
}

// P4.2: Sync of no bytes, and again and again.
func TestSyncAgain(t *testing.T) {
	d := New(-1)
	does(t, d.Sync(), d.Sync(0, 1))
	leaves(t, "empty", d, "", "")
	does(t, d.Append(0, []byte("ab")), d.Sync(), d.Sync(0), d.Sync())
	leaves(t, "again", d, "ab", "")
}
