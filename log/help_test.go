package log

import (
	"crypto/sha256"
	"encoding/binary"
	"slices"
	"strings"
	"testing"

	"stanchion/api"
	"stanchion/disk"
)

// The chapter's bytes, made by other means than the program's.

// num: a number's bytes.
func num(v int) string {
	return string(binary.AppendUvarint(nil, uint64(v)))
}

// framed: a payload's frame.
func framed(generation, place int, payload string) string {
	sum := sha256.Sum256([]byte(num(generation) + num(place) + payload))
	return num(len(payload)) + string(sum[:4]) + payload
}

// written: an area of a generation, which counts if it has n records.
func written(generation, n int, records ...string) string {
	return framed(generation, 0, num(generation)+num(n)) + placed(generation, 1, records...)
}

// placed: records' frames from a place on.
func placed(generation, place int, records ...string) string {
	var b strings.Builder
	for i, r := range records {
		b.WriteString(framed(generation, place+i, r))
	}
	return b.String()
}

// on: a disk with these areas, all safe.
func on(t *testing.T, first, second string, power int) *disk.Disk {
	t.Helper()
	d := disk.New(-1)
	does(t, d.Append(0, []byte(first)), d.Append(1, []byte(second)))
	return d.Crash([]int{len(first), len(second)}, power)
}

// opened: the log on a disk.
func opened(t *testing.T, d *disk.Disk) *Log {
	t.Helper()
	l, e := Open(d)
	if e != api.OK || l == nil {
		t.Fatalf("Open: %v, %d", l, e)
	}
	return l
}

// does: no call has an error.
func does(t *testing.T, answers ...api.Errno) {
	t.Helper()
	for i, e := range answers {
		if e != api.OK {
			t.Errorf("call %d: %d", i, e)
		}
	}
}

// payloads: texts as payloads.
func payloads(list ...string) [][]byte {
	var out [][]byte
	for _, s := range list {
		out = append(out, []byte(s))
	}
	return out
}

// texts: payloads as texts.
func texts(list [][]byte) []string {
	var out []string
	for _, b := range list {
		out = append(out, string(b))
	}
	return out
}

// holds: the log has just these records.
func holds(t *testing.T, what string, l *Log, laid int, records ...string) {
	t.Helper()
	if got := texts(l.Records()); !slices.Equal(got, records) || l.Laid() != laid {
		t.Errorf("%s: %d records %.20q, %d laid; not %d, %.20q, %d", what, len(got), got, l.Laid(), len(records), records, laid)
	}
}

// reads: the disk's areas are just these.
func reads(t *testing.T, what string, d *disk.Disk, areas ...string) {
	t.Helper()
	for i, want := range areas {
		if b, e := d.Read(i); string(b) != want || e != api.OK {
			t.Errorf("%s: area %d is %.40q of %d bytes, %d, not %.40q of %d", what, i, b, len(b), e, want, len(want))
		}
	}
}

// leaves: a loss of power that keeps nothing more leaves just these areas.
func leaves(t *testing.T, what string, d *disk.Disk, areas ...string) {
	t.Helper()
	reads(t, what+", the power gone", d.Crash(nil, 0), areas...)
}

// left: how many calls the disk's power is still enough for. None is, behind it.
func left(d *disk.Disk) int {
	n := 0
	for d.Sync() == api.OK {
		n++
	}
	return n
}
