package log

import (
	"slices"
	"strings"
	"testing"

	"stanchion/api"
	"stanchion/disk"
)

// P5.3, P5.4: the records are just these, in the other area, of the next generation; the elder one is as it was.
func TestLay(t *testing.T) {
	for _, x := range [][]string{
		nil, {""}, {"a"}, {"", ""}, {"a", "b", "c"}, {"\x00\xff"}, {strings.Repeat("x", api.MaxField), "b"}, slices.Repeat([]string{"r"}, 2*api.MaxParts),
	} {
		for _, junk := range []string{"", "junk", written(9, 1), written(3, 0, "y", "z")} {
			elder := written(127, 1, "a", "b")
			for area, areas := range [][2]string{{elder, junk}, {junk, elder}} {
				d := on(t, areas[0], areas[1], 4)
				l := opened(t, d)
				does(t, l.Lay(payloads(x...)...))
				holds(t, "laid", l, len(x), x...)
				areas[1-area] = written(128, len(x), x...)
				reads(t, "laid", d, areas[:]...)
				leaves(t, "laid", d, areas[:]...)
				holds(t, "opened", opened(t, d.Crash(nil, 0)), len(x), x...)
				does(t, l.Add([]byte("more")))
				holds(t, "added", l, len(x), append(slices.Clip(x), "more")...)
				areas[1-area] += framed(128, len(x)+1, "more")
				reads(t, "added", d, areas[:]...)
				if e := l.Sync(); e != api.ErrDown {
					t.Errorf("Lay and Add aren't four calls: %d", e)
				}
			}
		}
	}
}

// P5.3: again and again: the areas by turns, the generations one by one.
func TestLayAgain(t *testing.T) {
	d := disk.New(-1)
	l := opened(t, d)
	areas := [2]string{written(1, 0), ""}
	for i := range 300 {
		generation, area := i+2, (i+1)%2
		list := slices.Repeat([]string{num(i)}, i%4)
		does(t, l.Lay(payloads(list...)...))
		areas[area] = written(generation, len(list), list...)
		holds(t, "laid", l, len(list), list...)
		reads(t, "laid", d, areas[:]...)
		does(t, l.Add([]byte("a")), l.Sync(), l.Add([]byte("b")))
		list = append(list, "a", "b")
		areas[area] += placed(generation, len(list)-1, "a", "b")
		reads(t, "added", d, areas[:]...)
		holds(t, "synced", opened(t, d.Crash(nil, 0)), len(list)-2, list[:len(list)-1]...)
		if i%5 == 0 {
			d = d.Crash([]int{1 << 30, 1 << 30}, -1)
			l = opened(t, d)
			holds(t, "opened", l, len(list)-2, list...)
		}
	}
}

// P5.3: an area that is laid makes nothing of the elder one safe.
func TestLayMakesSafe(t *testing.T) {
	d := on(t, written(1, 0, "a"), "", -1)
	l := opened(t, d)
	does(t, l.Add([]byte("b")), l.Lay([]byte("x"), nil))
	reads(t, "laid", d, written(1, 0, "a", "b"), written(2, 2, "x", ""))
	leaves(t, "laid", d, written(1, 0, "a"), written(2, 2, "x", ""))
}

// P5.3: ErrLong comes ahead of the disk's error; nothing is done, and no call of the disk.
func TestLayRefuses(t *testing.T) {
	for name, list := range longs() {
		for power := range 5 {
			d := on(t, "junk", written(1, 1, "a", "b"), power)
			l := opened(t, d)
			if e := l.Lay(list...); e != api.ErrLong {
				t.Errorf("%s, power %d: %d", name, power, e)
			}
			holds(t, name, l, 1, "a", "b")
			reads(t, name, d, "junk", written(1, 1, "a", "b"))
			if n := left(d); n != power {
				t.Errorf("%s: power for %d calls, not %d", name, n, power)
			}
		}
	}
}

// P5.3: the first error ends it; whatever is lost, another log finds what was there ahead, or what was laid.
func TestLayDown(t *testing.T) {
	for _, other := range []string{"", "junk", written(1, 0, "y")} {
		elder, laid := written(2, 1, "a", "b"), written(3, 3, "x", "", "z")
		after := []string{other, "", laid, laid}
		for power := range 5 {
			d := on(t, elder, other, power)
			e := opened(t, d).Lay(payloads("x", "", "z")...)
			if power < 3 && e != api.ErrDown || power >= 3 && e != api.OK {
				t.Errorf("power %d: %d", power, e)
			}
			reads(t, "down", d, elder, after[min(power, 3)])
			if n := left(d); n != max(power-3, 0) {
				t.Errorf("power %d: then for %d calls", power, n)
			}
			for keep := range len(laid) + 1 {
				l := opened(t, d.Crash([]int{0, keep}, -1))
				if power >= 3 || power == 2 && keep == len(laid) {
					holds(t, "laid", l, 3, "x", "", "z")
				} else {
					holds(t, "ahead", l, 1, "a", "b")
				}
			}
		}
	}
}

// P5.3, P5.1: what was added behind what was laid is lost alone; the laid area counts, whatever is lost of it.
func TestLayThenLoss(t *testing.T) {
	d := disk.New(-1)
	l := opened(t, d)
	does(t, l.Add([]byte("a")), l.Lay([]byte("x"), []byte("y")), l.Add([]byte("b"), []byte("c")))
	one := len(framed(2, 3, "b"))
	for keep := range 2*one + 1 {
		left := d.Crash([]int{9, keep}, 3)
		k := opened(t, left)
		holds(t, "loss", k, 2, []string{"x", "y", "b", "c"}[:2+keep/one]...)
		// The next one is laid where the elder was.
		if keep%one == 0 {
			does(t, k.Lay([]byte("z")))
			reads(t, "next", left, written(3, 1, "z"))
			holds(t, "next", opened(t, left.Crash(nil, 0)), 1, "z")
		}
	}
}

// P5.3: behind the greatest generation none can be written: an error, and all stays as it is.
func TestLayNoGeneration(t *testing.T) {
	d := on(t, "junk", written(api.MaxNum-2, 0), enough)
	l := opened(t, d)
	does(t, l.Lay([]byte("a")))
	last := written(api.MaxNum-1, 1, "a")
	reads(t, "last", d, last, written(api.MaxNum-2, 0))
	holds(t, "last", opened(t, d.Crash(nil, 0)), 1, "a")
	for range 3 {
		if e := l.Lay([]byte("b"), []byte("c")); e != api.ErrNum {
			t.Error(e)
		}
		if e := l.Lay(make([]byte, api.MaxField+1)); e != api.ErrLong {
			t.Error(e)
		}
		holds(t, "refused", l, 1, "a")
		reads(t, "refused", d, last, written(api.MaxNum-2, 0))
	}
	does(t, l.Add([]byte("b")))
	reads(t, "added", d, last+framed(api.MaxNum-1, 2, "b"))
	if n := enough - left(d); n != 4 {
		t.Errorf("%d calls", n)
	}
}
