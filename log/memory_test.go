package log

import (
	"bytes"
	"testing"

	"stanchion/disk"
)

// roomy: the bytes s, with other bytes behind their length in their memory; and all that memory.
func roomy(s string) (b, all []byte) {
	all = append([]byte(s), "behind the length"...)
	return all[:len(s)], all
}

// spoil: all that b's memory holds is another, spare room too.
func spoil(b []byte) {
	b = b[:cap(b)]
	for i := range b {
		b[i] ^= 0x55
	}
}

// P5.5: payloads are as they were, and aren't kept; the list of them neither.
func TestPayloadsMemory(t *testing.T) {
	for _, list := range [][]string{{"one"}, {"one", "two"}, {"", "one", ""}, {"one", "one", "one"}} {
		for name, call := range map[string]func(l *Log, list [][]byte){
			"Add": func(l *Log, list [][]byte) { does(t, l.Add(list...)) },
			"Lay": func(l *Log, list [][]byte) { does(t, l.Lay(list...)) },
		} {
			var in, alls, were [][]byte
			for _, s := range list {
				b, all := roomy(s)
				in, alls, were = append(in, b), append(alls, all), append(were, bytes.Clone(all))
			}
			behind := []byte("behind")
			in = append(in, behind)
			d := disk.New(-1)
			l := opened(t, d)
			call(l, in[:len(list)])
			l.Records()
			for i := range alls {
				if !bytes.Equal(alls[i], were[i]) || string(in[i]) != list[i] {
					t.Errorf("%s of %q changed: %q", name, list, alls[i])
				}
				spoil(alls[i])
			}
			if &in[len(list)][0] != &behind[0] || string(behind) != "behind" {
				t.Errorf("%s of %q changed what is behind", name, list)
			}
			laid := l.Laid()
			clear(in)
			holds(t, name, l, laid, list...)
			holds(t, name, opened(t, d.Crash([]int{1 << 30, 1 << 30}, 0)), laid, list...)
		}
	}
}

// P5.5: records that were answered may be handed in again, one of them twice.
func TestRecordsHandedIn(t *testing.T) {
	l := opened(t, disk.New(-1))
	does(t, l.Add(payloads("a", "bc")...))
	r := l.Records()
	does(t, l.Add(r...), l.Add(r[1], r[1][:1], r[1]))
	holds(t, "again", l, 0, "a", "bc", "a", "bc", "bc", "b", "bc")
	does(t, l.Lay(l.Records()[1:3]...))
	holds(t, "laid", l, 2, "bc", "a")
}

// P5.5, rule 5: what is answered is new memory: no record shares any with another, with another answer, or with the log.
func TestRecordsMemory(t *testing.T) {
	want := []string{"one", "", "two", "three"}
	for i := range want {
		d := disk.New(-1)
		l := opened(t, d)
		does(t, l.Lay(payloads(want[:2]...)...), l.Add(payloads(want[2:]...)...))
		other := l.Records()
		got := l.Records()
		spoil(got[i])
		_ = append(got[i], "more and more and more"...)
		for k := range got {
			if k != i && string(got[k]) != want[k] {
				t.Errorf("record %d hangs on %d: %q", k, i, got[k])
			}
		}
		got[i] = nil
		_ = append(got[:1], []byte("x"), []byte("y"))
		for k := range other {
			if string(other[k]) != want[k] {
				t.Errorf("another answer's record %d: %q", k, other[k])
			}
		}
		holds(t, "spoiled", l, 2, want...)
		reads(t, "spoiled", d, written(1, 0), written(2, 2, want...))
		// What comes changes no answer.
		does(t, l.Lay(payloads("other", "other")...), l.Lay(payloads("another", "another")...))
		for k := range other {
			if string(other[k]) != want[k] {
				t.Errorf("later, record %d: %q", k, other[k])
			}
		}
	}
}

// P5.5, rule 5: nothing of the area lies in a record's spare room.
func TestRecordsSpareRoom(t *testing.T) {
	l := opened(t, disk.New(-1))
	does(t, l.Add(payloads("sssssssss", "ssssssssssss", "s", "ssssss")...))
	for _, r := range l.Records() {
		if room := r[len(r):cap(r)]; bytes.Count(room, []byte{0}) != len(room) {
			t.Errorf("spare room %q", room)
		}
	}
}

// P2, rule 8: two logs have nothing in common.
func TestLogsApart(t *testing.T) {
	d := disk.New(-1)
	a, b := opened(t, d), opened(t, disk.New(-1))
	does(t, a.Add([]byte("a")), a.Sync(), b.Add([]byte("b")), b.Lay([]byte("c")))
	c := opened(t, d.Crash(nil, -1))
	does(t, a.Add([]byte("d")), c.Add([]byte("e")), c.Lay([]byte("f"), []byte("g")))
	holds(t, "first", a, 0, "a", "d")
	holds(t, "second", b, 1, "c")
	holds(t, "third", c, 2, "f", "g")
}
