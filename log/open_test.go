package log

import (
	"strings"
	"testing"

	"stanchion/api"
	"stanchion/disk"
)

const enough = 100

// P5.1, P5.4: which area counts, and what of it.
func TestOpenCounts(t *testing.T) {
	for _, x := range []struct {
		areas   [2]string
		laid    int
		records []string
	}{
		{[2]string{written(1, 0), ""}, 0, nil},
		{[2]string{"", written(1, 0)}, 0, nil},
		{[2]string{written(1, 0, "a", "", "b"), ""}, 0, []string{"a", "", "b"}},
		{[2]string{"", written(2, 2, "a", "b")}, 2, []string{"a", "b"}},
		{[2]string{"junk", written(5, 2, "a", "b", "c")}, 2, []string{"a", "b", "c"}},
		{[2]string{written(1, 0, "a"), written(2, 1, "b")}, 1, []string{"b"}},
		{[2]string{written(3, 1, "a"), written(2, 0, "b")}, 1, []string{"a"}},
		{[2]string{written(4, 0), written(3, 2, "a", "b")}, 0, nil},
		// The same generation.
		{[2]string{written(2, 1, "a"), written(2, 1, "b", "c")}, 1, []string{"a"}},
		{[2]string{written(1, 0), written(1, 1, "b")}, 0, nil},
		// The greater number, not the greater bytes, nor the greater one of fewer bits.
		{[2]string{written(127, 1, "a"), written(128, 1, "b")}, 1, []string{"b"}},
		{[2]string{written(255, 1, "a"), written(256, 1, "b")}, 1, []string{"b"}},
		{[2]string{written(1<<32+1, 1, "a"), written(2, 1, "b")}, 1, []string{"a"}},
		{[2]string{written(1<<32-1, 0), written(1<<32, 0, "b")}, 0, []string{"b"}},
		{[2]string{written(api.MaxNum-2, 0, "a"), written(api.MaxNum-1, 0, "b")}, 0, []string{"b"}},
		// Too few records: the other one, of whatever generation.
		{[2]string{written(1, 0, "a"), written(2, 1)}, 0, []string{"a"}},
		{[2]string{written(1, 1, "a"), written(2, 3, "b", "c")}, 1, []string{"a"}},
		{[2]string{written(9, 2, "a"), written(3, 0)}, 0, nil},
		{[2]string{written(9, 1<<32, "a"), written(3, 1, "b")}, 1, []string{"b"}},
		{[2]string{written(9, api.MaxNum-1, "a"), written(3, 1, "b")}, 1, []string{"b"}},
		{[2]string{written(2, 2, "a"), written(2, 2, "b", "c")}, 2, []string{"b", "c"}},
	} {
		// There is no need of power, nor of any change.
		d := on(t, x.areas[0], x.areas[1], 0)
		holds(t, "opened", opened(t, d), x.laid, x.records...)
		reads(t, "opened", d, x.areas[:]...)
	}
}

// notAreas: bytes that aren't an area that counts.
func notAreas() []string {
	whole := written(3, 2, "ab", "c")
	sum := framed(3, 0, num(3)+num(2))[1:5]
	list := []string{
		"", "\x00", "junk", "\x00\x00\x00\x00\x00", strings.Repeat("\x00", 40), strings.Repeat("\xff", 40), strings.Repeat("\x80", 40),
		"\x00" + whole, whole[1:],
		// No frame of place 0, or not of this generation.
		placed(3, 1, "ab", "c"), framed(3, 1, num(3)+num(0)), framed(0, 0, num(3)+num(0)), framed(4, 0, num(3)+num(0)), framed(3, 3, num(3)+num(0)),
		// Generation 0.
		framed(0, 0, num(0)+num(0)), framed(1, 0, num(0)+num(0)), framed(0, 0, num(0)+num(1)) + placed(0, 1, "a"),
		// Not two numbers.
		framed(3, 0, ""), framed(3, 0, num(3)), framed(3, 0, num(3)+num(0)+num(0)), framed(3, 0, num(3)+"\x80"), framed(3, 0, num(3)+num(0)+"\x80"),
		// Numbers as nothing is written.
		framed(3, 0, "\x83\x00\x00"), framed(3, 0, "\x03\x80\x00"), framed(3, 0, "\x03"+strings.Repeat("\x80", 8)+"\x40"),
		framed(api.MaxNum-1, 0, strings.Repeat("\xff", 8)+"\x7f\x00"), framed(3, 0, "\x03"+strings.Repeat("\xff", 9)+"\x01"),
		"\x82\x00" + sum + num(3) + num(2) + placed(3, 1, "ab", "c"),
		// Too few records.
		written(3, 1), written(3, 3, "ab", "c"), written(3, api.MaxNum-1, "ab"), written(3, 2, "ab") + placed(3, 3, "c"),
		written(3, 2) + placed(3, 2, "c"), written(3, 2) + placed(3, 0, "ab", "c"), written(3, 2, "ab", "c")[:len(whole)-1],
		written(3, 2) + placed(4, 1, "ab", "c"), written(3, 2) + framed(3, 1, "ab") + framed(4, 2, "c"), written(3, 2, "ab") + framed(3, 1, "c"),
		written(3, 2, "ab") + "x" + framed(3, 2, "c"), written(3, 0)[:6], written(3, 0)[:5],
		written(3, 1, strings.Repeat("x", api.MaxField+1)),
	}
	return list
}

// P5.1: if none counts, an empty one of generation 1 is laid in area 0; the other one is as it was.
func TestOpenLays(t *testing.T) {
	for i, first := range notAreas() {
		for _, second := range []string{"", "junk", first} {
			d := on(t, first, second, enough)
			l := opened(t, d)
			holds(t, "laid", l, 0)
			reads(t, "laid", d, written(1, 0), second)
			leaves(t, "laid", d, written(1, 0), second)
			does(t, l.Add([]byte("a")))
			reads(t, "added", d, written(1, 0, "a"), second)
			if n := enough - left(d); n != 4 {
				t.Errorf("bytes %d: %d calls", i, n)
			}
		}
	}
}

// P5.1: what doesn't count leaves what does alone, wherever it lies.
func TestOpenBeside(t *testing.T) {
	for _, other := range notAreas() {
		for _, areas := range [][2]string{{written(2, 1, "a", "b"), other}, {other, written(2, 1, "a", "b")}} {
			d := on(t, areas[0], areas[1], 0)
			holds(t, "beside", opened(t, d), 1, "a", "b")
			reads(t, "beside", d, areas[:]...)
		}
	}
}

// P5.1: what stands behind the frames is trimmed off, of the area that counts alone.
func TestOpenTrims(t *testing.T) {
	good := written(3, 1, "ab", "c")
	for i, behind := range []string{
		"x", "\x00", "\x80", "\x01\x00\x00\x00\x00x", strings.Repeat("\xff", 30), strings.Repeat("\x00", 30),
		framed(3, 3, "d")[:5], framed(3, 3, "")[:4], framed(3, 3, "")[:1], "x" + framed(3, 3, "d"),
		// Of another generation, of no rising place.
		framed(2, 3, "d"), framed(4, 3, "d"), framed(0, 3, "d"), framed(3, 4, "d"), framed(3, 2, "c"), framed(3, 2, "d"), framed(3, 0, "d"), framed(3, 1, "ab"), good,
		framed(3, 4, "e") + framed(3, 3, "d"),
		// Too long, whole as it is; its length as nothing is written.
		framed(3, 3, strings.Repeat("x", api.MaxField+1)), framed(3, 3, strings.Repeat("x", api.MaxField+1)) + framed(3, 4, "e"),
		"\x81\x00" + framed(3, 3, "d")[1:], num(1<<32+1) + framed(3, 3, "d")[1:], num(api.MaxNum-1) + framed(3, 3, "d")[1:],
	} {
		for area, areas := range [][2]string{{good + behind, written(2, 0, "z") + behind}, {written(2, 0, "z") + behind, good + behind}} {
			d := on(t, areas[0], areas[1], enough)
			l := opened(t, d)
			holds(t, "trimmed", l, 1, "ab", "c")
			areas[area] = good
			reads(t, "trimmed", d, areas[:]...)
			does(t, l.Add([]byte("e")))
			areas[area] += framed(3, 3, "e")
			reads(t, "added", d, areas[:]...)
			if n := enough - left(d); n != 2 {
				t.Errorf("bytes %d: %d calls", i, n)
			}
		}
	}
}

// P5.1: payloads of MaxField bytes are taken; behind a longer one nothing is.
func TestOpenLong(t *testing.T) {
	long := strings.Repeat("x", api.MaxField)
	for _, n := range []int{0, 1, 2} {
		good := written(1, n, long, "a", long)
		d := on(t, good+framed(1, 4, long+"x")+framed(1, 5, "b"), "", 1)
		holds(t, "long", opened(t, d), n, long, "a", long)
		reads(t, "long", d, good, "")
	}
}

// P5.1: wherever an area's bytes end, what is whole of its frames is taken.
func TestOpenCutShort(t *testing.T) {
	records := []string{"ab", "", "c", strings.Repeat("d", 200)}
	for n := range 5 {
		whole := written(7, n, records...)
		for end := range len(whole) + 1 {
			d := on(t, whole[:end], "", 3)
			l := opened(t, d)
			count := len(records)
			for count >= n && len(written(7, n, records[:count]...)) > end {
				count--
			}
			if count < n {
				holds(t, "too short", l, 0)
				reads(t, "too short", d, written(1, 0), "")
				continue
			}
			holds(t, "short", l, n, records[:count]...)
			reads(t, "short", d, written(7, n, records[:count]...), "")
		}
	}
}

// P5.1: whatever bit of an area is another, its frame and those behind it aren't taken.
func TestOpenEachBit(t *testing.T) {
	records := []string{"ab", "", "c"}
	for n := range 4 {
		whole := written(7, n, records...)
		for bit := range 8 * len(whole) {
			b := []byte(whole)
			b[bit/8] ^= 1 << (bit % 8)
			count := len(records)
			for count >= 0 && len(written(7, n, records[:count]...)) > bit/8 {
				count--
			}
			d := on(t, "", string(b), 3)
			l := opened(t, d)
			if count < n {
				holds(t, "other bit", l, 0)
				reads(t, "other bit", d, written(1, 0), string(b))
				continue
			}
			holds(t, "other bit", l, n, records[:count]...)
			reads(t, "other bit", d, "", written(7, n, records[:count]...))
		}
	}
}

// P5.1: the first error of the disk ends it; what was done until then is done.
func TestOpenDown(t *testing.T) {
	for _, x := range []struct {
		areas [2]string
		after []string // area 0, once so many calls are done
	}{
		{[2]string{"", ""}, []string{"", "", written(1, 0), written(1, 0)}},
		{[2]string{"junk", "junk"}, []string{"junk", "", written(1, 0), written(1, 0)}},
		{[2]string{written(9, 1), ""}, []string{written(9, 1), "", written(1, 0), written(1, 0)}},
		{[2]string{written(2, 0, "a") + "x", ""}, []string{written(2, 0, "a") + "x", written(2, 0, "a")}},
	} {
		calls := len(x.after) - 1
		for power := range calls + 1 {
			d := on(t, x.areas[0], x.areas[1], power)
			l, e := Open(d)
			if power < calls && (l != nil || e != api.ErrDown) || power == calls && (l == nil || e != api.OK) {
				t.Errorf("%q, power %d: %v, %d", x.areas, power, l, e)
			}
			reads(t, "down", d, x.after[power], x.areas[1])
			if d.Sync() != api.ErrDown {
				t.Errorf("%q, power %d: not all calls", x.areas, power)
			}
			// Whatever is lost of it, another one finds a log.
			for keep := range len(x.after[power]) + 1 {
				opened(t, d.Crash([]int{keep}, -1))
			}
		}
	}
}

// P5.1: what is laid is safe, and nothing else is; a Trim makes nothing safe.
func TestOpenMakesSafe(t *testing.T) {
	d := disk.New(3)
	opened(t, d)
	leaves(t, "new", d, written(1, 0), "")

	d = on(t, "", "safe", -1)
	does(t, d.Append(0, []byte("junk")), d.Append(1, []byte("junk")))
	opened(t, d)
	reads(t, "laid", d, written(1, 0), "safejunk")
	leaves(t, "laid", d, written(1, 0), "safe")

	d = on(t, written(1, 0), "", -1)
	does(t, d.Append(0, []byte(framed(1, 1, "a")+"junk")))
	holds(t, "trimmed", opened(t, d), 0, "a")
	reads(t, "trimmed", d, written(1, 0, "a"), "")
	leaves(t, "trimmed", d, written(1, 0), "")
}

// P5.1, P1: no disk.
func TestOpenNoDisk(t *testing.T) {
	if l, e := Open(nil); l != nil || e == api.OK {
		t.Errorf("%v, %d", l, e)
	}
}

// P5.1: to open is to change nothing that a log opened once more could tell.
func TestOpenAgain(t *testing.T) {
	for _, areas := range [][2]string{{"", ""}, {"junk", "junk"}, {written(4, 1, "a", "b") + "x", written(5, 2, "c")}, {written(4, 0), written(5, 2, "c", "d", "e") + "\x80"}} {
		d := on(t, areas[0], areas[1], -1)
		l := opened(t, d)
		first, _ := d.Read(0)
		second, _ := d.Read(1)
		again := opened(t, d.Crash(nil, 0))
		holds(t, "again", again, l.Laid(), texts(l.Records())...)
		reads(t, "again", d, string(first), string(second))
	}
}
