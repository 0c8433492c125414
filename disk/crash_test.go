package disk

import (
	"math"
	"testing"

	"stanchion/api"
)

// The chapter's example.
func TestExample(t *testing.T) {
	d := New(-1)
	does(t, d.Append(1, []byte("abc")), d.Sync(), d.Append(1, []byte("de")))
	holds(t, "example", d.Crash([]int{9, 1}, -1), "", "abcd")
}

// P4.3: the first k of the bytes that aren't safe, for each area by its own number.
func TestCrashKeeps(t *testing.T) {
	for _, x := range []struct {
		keeps []int
		left  [2]string
	}{
		{nil, [2]string{"abc", "uv"}},
		{[]int{}, [2]string{"abc", "uv"}},
		{[]int{1}, [2]string{"abcd", "uv"}},
		{[]int{0, 1}, [2]string{"abc", "uvw"}},
		{[]int{2, 1}, [2]string{"abcde", "uvw"}},
		{[]int{3, 2}, [2]string{"abcdef", "uvwx"}},
		{[]int{4, 3}, [2]string{"abcdef", "uvwx"}},
		{[]int{1, 2}, [2]string{"abcd", "uvwx"}},
		{[]int{-1, 1}, [2]string{"abc", "uvw"}},
		{[]int{1, -1}, [2]string{"abcd", "uv"}},
		{[]int{-3, -2}, [2]string{"abc", "uv"}},
		{[]int{math.MinInt, math.MaxInt}, [2]string{"abc", "uvwx"}},
		{[]int{math.MaxInt, math.MinInt}, [2]string{"abcdef", "uv"}},
		{[]int{math.MaxInt - 3, math.MaxInt - 2}, [2]string{"abcdef", "uvwx"}},
		{[]int{1 << 32, 1<<32 + 1}, [2]string{"abcdef", "uvwx"}},
		{[]int{0, 0, 5, 5}, [2]string{"abc", "uv"}},
		{[]int{1, 1, -1, math.MaxInt}, [2]string{"abcd", "uvw"}},
	} {
		d := filled(t, -1)
		left := d.Crash(x.keeps, -1)
		holds(t, "left", left, x.left[:]...)
		// All of it is safe, whatever the next loss keeps.
		leaves(t, "left", left, x.left[:]...)
		holds(t, "left twice", left.Crash([]int{9, 9}, -1), x.left[:]...)
	}
}

// P4.3: what is safe isn't lost, and counts for nothing of what is kept.
func TestCrashSafe(t *testing.T) {
	d := filled(t, -1)
	does(t, d.Sync())
	for _, keeps := range [][]int{nil, {0, 0}, {1, 1}, {-1, -1}, {math.MaxInt, math.MaxInt}} {
		holds(t, "safe", d.Crash(keeps, -1), "abcdef", "uvwx")
	}
	for _, keeps := range [][]int{nil, {1, 1}, {math.MaxInt, math.MaxInt}} {
		holds(t, "empty", New(-1).Crash(keeps, -1), "", "")
	}
}

// P4.3: the disk that is left has the given power, whatever is left of the other's.
func TestCrashPower(t *testing.T) {
	for _, was := range []int{-1, 2, 5} {
		for _, power := range []int{0, 1, 2, 7} {
			d := filled(t, was).Crash(nil, power)
			for i := range power {
				if e := d.Append(i%2, []byte("x")); e != api.OK {
					t.Errorf("power %d, then %d, call %d: %d", was, power, i, e)
				}
			}
			if e := d.Sync(); e != api.ErrDown {
				t.Errorf("power %d, then %d: %d", was, power, e)
			}
		}
		for _, power := range []int{-1, math.MinInt, math.MaxInt} {
			d := filled(t, was).Crash(nil, power)
			for i := range 100 {
				if e := d.Sync(); e != api.OK {
					t.Fatalf("power %d, then %d, call %d: %d", was, power, i, e)
				}
			}
		}
	}
}

// P4.3: the disk whose power is lost stays as it is, its power too.
func TestCrashLeavesAlone(t *testing.T) {
	d := filled(t, 4)
	for range 3 {
		d.Crash([]int{1, 1}, 0)
		d.Crash([]int{9, 9}, -1)
		holds(t, "as it was", d, "abcdef", "uvwx")
		leaves(t, "as it was", d, "abc", "uv")
	}
	does(t, d.Append(0, []byte("g")), d.Sync(0))
	holds(t, "goes on", d, "abcdefg", "uvwx")
	leaves(t, "goes on", d, "abcdefg", "uv")
	if e := d.Sync(); e != api.ErrDown {
		t.Error(e)
	}
}

// P4.3, P4.2: of a call that had no power nothing is kept.
func TestCrashBehindErrors(t *testing.T) {
	d := filled(t, 2)
	for _, e := range []api.Errno{d.Append(0, []byte("gh")), d.Trim(1, 0), d.Sync()} {
		if e != api.ErrDown {
			t.Error(e)
		}
	}
	holds(t, "all kept", d.Crash([]int{99, 99}, -1), "abcdef", "uvwx")
	leaves(t, "none kept", d, "abc", "uv")
}
