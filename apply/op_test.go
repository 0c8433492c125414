package apply

import (
	"bytes"
	"fmt"
	"math/rand"
	"slices"
	"strings"
	"testing"

	"stanchion/api"
)

// has: of each kind the fields that it has: p Path, d Data, v Version, s Span, b Brief, n Numbered, w Watch, o Ops.
var has = map[int]string{
	api.OpOpen:  "s",
	api.OpClose: "",
	api.OpMake:  "pdbn",
	api.OpDrop:  "pv",
	api.OpSet:   "pdv",
	api.OpGet:   "pw",
	api.OpKids:  "pw",
	api.OpMulti: "o",
	api.OpPing:  "",
}

const allFields = "pdvsbnwo"

// fill: the field of the operation is a right one, and not zero.
func fill(o *api.Op, field rune) {
	switch field {
	case 'p':
		o.Path = "/path"
	case 'd':
		o.Data = []byte("data")
	case 'v':
		o.Version = 300
	case 's':
		o.Span = 200
	case 'b':
		o.Brief = true
	case 'n':
		o.Numbered = true
	case 'w':
		o.Watch = true
	case 'o':
		o.Ops = []api.Op{full(api.OpMake), full(api.OpSet), full(api.OpDrop), {Kind: api.OpMake}}
	}
}

// full: a right operation of a kind, all fields of which aren't zero.
func full(kind int) api.Op {
	o := api.Op{Kind: kind}
	for _, field := range has[kind] {
		fill(&o, field)
	}
	return o
}

// all: operations of all kinds, with little and with much in them.
func all() []api.Op {
	list := []api.Op{multi(), multi(full(api.OpDrop)), drop("/"), get("/", true), kids("", false), set("\xff\x00", "\x00"), briefNode("/b"), numberedNode("/n")}
	for kind := 1; kind <= 9; kind++ {
		list = append(list, full(kind), api.Op{Kind: kind})
	}
	return list
}

// P13.1: bytes written out.
func TestPackBytes(t *testing.T) {
	for _, x := range []struct {
		o    api.Op
		want string
	}{
		{open(10), "\x04\x01\x01\x0a\x00\x00\x00"},
		{shut(), "\x04\x02\x01\x00\x00\x00\x00"},
		{ping(), "\x04\x09\x01\x00\x00\x00\x00"},
		{api.Op{Kind: api.OpMake, Path: "/a", Data: []byte("d"), Brief: true, Numbered: true}, "\x04\x03\x01\x00\x03\x02/a\x01d"},
		{briefNode("/a"), "\x04\x03\x01\x00\x01\x02/a\x00"},
		{numberedNode("/a"), "\x04\x03\x01\x00\x02\x02/a\x00"},
		{drop("/a"), "\x04\x04\x00\x00\x00\x02/a\x00"},
		{api.Op{Kind: api.OpSet, Path: "/a", Data: []byte("xyz"), Version: 299}, "\x05\x05\xac\x02\x00\x00\x02/a\x03xyz"},
		{get("/", true), "\x04\x06\x01\x00\x04\x01/\x00"},
		{get("/", false), "\x04\x06\x01\x00\x00\x01/\x00"},
		{kids("", true), "\x04\x07\x01\x00\x04\x00\x00"},
		{multi(), "\x04\x08\x01\x00\x00\x00\x00"},
		{multi(drop("/a"), plainNode("/b")), "\x04\x08\x01\x00\x00\x00\x00\x09\x04\x04\x00\x00\x00\x02/a\x00\x09\x04\x03\x01\x00\x00\x02/b\x00"},
	} {
		if b, e := Pack(x.o); string(b) != x.want || e != api.OK {
			t.Errorf("%s: %q, %d, not %q", text(x.o), b, e, x.want)
		}
		if o, e := Read([]byte(x.want)); text(o) != text(x.o) || e != api.OK {
			t.Errorf("%q: %s, %d, not %s", x.want, text(o), e, text(x.o))
		}
	}
}

// P13.1: there is no other kind than the nine.
func TestOpKinds(t *testing.T) {
	for _, kind := range append([]int{3, 4, 5, 6, 10, 11, 128, 256 + 9, 1<<32 + 9}, far...) {
		ops.either(t, fmt.Sprint("kind ", kind), api.Op{Kind: kind}, kind >= 1 && kind <= 9)
		for _, field := range allFields {
			o := api.Op{Kind: kind}
			fill(&o, field)
			ops.either(t, fmt.Sprint("kind ", kind), o, strings.ContainsRune(has[kind], field))
		}
	}
}

// P13.1: each kind has its fields, and none else.
func TestOpFields(t *testing.T) {
	for kind := 1; kind <= 9; kind++ {
		ops.taken(t, fmt.Sprint("kind ", kind), full(kind))
		for _, field := range allFields {
			o := full(kind)
			fill(&o, field)
			ops.either(t, fmt.Sprintf("kind %d with %c", kind, field), o, strings.ContainsRune(has[kind], field))
		}
	}
	// Version -1 isn't zero.
	for kind := 1; kind <= 9; kind++ {
		o := api.Op{Kind: kind, Version: -1}
		ops.either(t, fmt.Sprint("kind ", kind), o, kind == api.OpDrop || kind == api.OpSet)
	}
}

// P13.1: versions are from -1 to 2^40 - 1, spans from 0 on.
func TestOpNumbers(t *testing.T) {
	for _, n := range far {
		for _, kind := range []int{api.OpDrop, api.OpSet} {
			o := api.Op{Kind: kind, Version: n}
			ops.either(t, fmt.Sprint("version ", n), o, n >= -1 && n <= latest)
			ops.either(t, fmt.Sprint("version ", n, " within"), multi(other(), o), n >= -1 && n <= latest)
		}
		ops.either(t, fmt.Sprint("span ", n), open(n), n >= 0 && n <= latest)
	}
}

// other: a right operation that may stand within another.
func other() api.Op { return plainNode("/x") }

// P13.1: path and data may be any bytes.
func TestOpAnyBytes(t *testing.T) {
	for c := range 256 {
		s := string([]byte{byte(c)})
		ops.taken(t, s, plainNode(s))
		ops.taken(t, s, set(s+"/"+s, s+s))
		ops.taken(t, s, get(s, true))
		ops.taken(t, s, multi(drop(s), set("", s)))
	}
}

// P13.1: of OpMulti there are at most four, each of a kind that changes the tree, and right.
func TestOpMulti(t *testing.T) {
	for n := range 8 {
		for _, o := range []api.Op{plainNode("/a"), drop("/a"), set("/a", "x")} {
			ops.either(t, fmt.Sprint(n, " of ", o.Kind), multi(slices.Repeat([]api.Op{o}, n)...), n <= 4)
		}
	}
	for _, kind := range append([]int{3, 4, 5, 6, 10}, far...) {
		right := kind == api.OpMake || kind == api.OpDrop || kind == api.OpSet
		for i := range 4 {
			list := slices.Repeat([]api.Op{full(api.OpSet)}, 4)
			list[i] = full(kind)
			ops.either(t, fmt.Sprint("kind ", kind, " at ", i), multi(list...), right)
			list[i] = api.Op{Kind: kind}
			ops.either(t, fmt.Sprint("kind ", kind, " at ", i), multi(list...), right)
			for _, field := range allFields {
				o := api.Op{Kind: kind}
				fill(&o, field)
				list[i] = o
				ops.either(t, fmt.Sprintf("kind %d with %c at %d", kind, field, i), multi(list...), right && strings.ContainsRune(has[kind], field))
			}
		}
	}
	for kind := 1; kind <= 9; kind++ {
		for n := range 3 {
			o := api.Op{Kind: kind, Ops: make([]api.Op, n)}
			ops.either(t, fmt.Sprint("kind ", kind), o, n == 0)
		}
	}
	ops.refused(t, "several within", multi(multi()))
	ops.refused(t, "several within", multi(drop("/a"), multi(drop("/a"))))
}

// P13.1: an operation has at most 1,024 bytes.
func TestOpSize(t *testing.T) {
	for size := range 1100 {
		s := strings.Repeat("x", size)
		for _, o := range []api.Op{plainNode(s), set("", s), set(s[:size/2], s[size/2:]), get(s, true), multi(plainNode(s)), multi(drop(s[:size/2]), set("", s[size/2:]))} {
			b, ok := otherOp(o)
			if !ok {
				t.Fatal(o)
			}
			ops.either(t, fmt.Sprint(len(b), " bytes"), o, len(b) <= 1024)
		}
	}
	for _, size := range []int{1 << 14, 65535, 65536, 65537, 1 << 24} {
		s := strings.Repeat("x", size)
		ops.refused(t, fmt.Sprint(size), plainNode(s))
		ops.refused(t, fmt.Sprint(size), set("", s))
		ops.refused(t, fmt.Sprint(size), multi(set("", s)))
	}
}

// P1: there is no end to what is within itself; and lists may be long.
func TestOpNested(t *testing.T) {
	for _, kind := range []int{api.OpMulti, api.OpMake, api.OpPing, 0, 77} {
		list := []api.Op{{Kind: kind}, {Kind: api.OpMulti}}
		list[0].Ops, list[1].Ops = list, list
		ops.unpacked(t, "within itself", list[0])
		ops.unpacked(t, "within itself", list[1])
		ops.unpacked(t, "within itself", multi(list...))
		ops.unpacked(t, "many", api.Op{Kind: kind, Ops: make([]api.Op, 1<<20)})
	}
	o := api.Op{Kind: api.OpSet}
	for range 1 << 16 {
		o = multi(o)
	}
	ops.unpacked(t, "deep", o)
	b := []byte("\x04\x08\x01\x00\x00\x00\x00")
	for len(b) < 1<<16 {
		b = append(b[:7:7], otherJoin(b)...)
		ops.nothing(t, "deep", b)
	}
	for _, b := range [][]byte{make([]byte, 1<<24), bytes.Repeat([]byte{255}, 1<<24), bytes.Repeat([]byte{128}, 1024), make([]byte, 1024), bytes.Repeat([]byte{1, 7}, 512)} {
		ops.nothing(t, "great", b)
	}
}

// P13.1: what begins like an operation, or has one in it, isn't it; each byte counts.
func TestReadEachByte(t *testing.T) {
	for _, o := range all() {
		b, _ := otherOp(o)
		ops.alone(t, b)
	}
	ops.nothing(t, "nil", nil)
	ops.nothing(t, "empty", []byte{})
	ops.nothing(t, "no operation", []byte("junk"))
}

// P13.1: fields that are one too few or too many, or are no such field.
func TestReadFields(t *testing.T) {
	path, data := []byte("/a"), []byte("d")
	for _, numbers := range []string{"", "\x03", "\x03\x01\x00", "\x03\x01\x00\x00\x00", "\x03\x81\x00\x00\x00", "\x03\x01\x00\x80", "\x83\x00\x01\x00\x00", "\xff\xff\xff\xff\xff\xff\xff\xff\x40\x01\x00\x00"} {
		ops.nothing(t, "numbers", otherJoin([]byte(numbers), path, data))
	}
	numbers := []byte("\x03\x01\x00\x00")
	ops.taken(t, "whole", api.Op{Kind: api.OpMake, Path: "/a", Data: data})
	for _, fields := range [][][]byte{{}, {numbers}, {numbers, path}, {numbers, path, data, nil}, {numbers, path, data, data}, {path, numbers, data}} {
		ops.nothing(t, "fields", otherJoin(fields...))
	}
	within, _ := otherOp(drop("/a"))
	several := []byte("\x08\x01\x00\x00")
	for _, field := range [][]byte{nil, {0}, within[:8], append(bytes.Clone(within), 0), data, otherJoin(within)} {
		ops.nothing(t, "within", otherJoin(several, nil, nil, field))
		ops.nothing(t, "within", otherJoin(several, nil, nil, within, field))
		ops.nothing(t, "within", otherJoin(several, nil, nil, field, within))
	}
	if !ops.whole(t, otherJoin(several, nil, nil, within, within)) {
		t.Error("several")
	}
}

// P13.1: flags are 1, 2 and 4 together, no others.
func TestReadFlags(t *testing.T) {
	for kind := range 11 {
		for _, flags := range append([]int{3, 4, 5, 6, 10, 12, 16, 32, 64}, far...) {
			numbers, ok := otherNums(kind, 1, 0, flags)
			if !ok {
				continue
			}
			right := kind >= 1 && kind <= 9 && flags == 0 || kind == api.OpMake && flags < 4 || (kind == api.OpGet || kind == api.OpKids) && flags == 4
			if ops.whole(t, otherJoin(numbers, nil, nil)) != right {
				t.Errorf("kind %d, flags %d: %t", kind, flags, !right)
			}
		}
	}
}

// P1, P13.1: bytes from nowhere, and fields of which some are an operation's.
func TestReadNoise(t *testing.T) {
	r := rand.New(rand.NewSource(13))
	some := []byte{0, 1, 2, 3, 4, 5, 6, 7, 8, 9, 128, 255}
	within, _ := otherOp(set("/a", "b"))
	pool := [][]byte{nil, {0}, {3, 1, 0, 0}, {5, 0, 0, 0}, {8, 1, 0, 0}, {6, 1, 0, 4}, {9, 1, 0, 0}, within, otherJoin(within), {1, 1, 200, 1, 0}, []byte("/a")}
	good := map[int]int{}
	for range 60000 {
		b := make([]byte, r.Intn(24))
		for i := range b {
			b[i] = some[r.Intn(len(some))]
		}
		ops.whole(t, b)
		results.whole(t, b)
		var fields [][]byte
		for range r.Intn(7) {
			fields = append(fields, pool[r.Intn(len(pool))])
		}
		b = otherJoin(fields...)
		results.whole(t, b)
		if ops.whole(t, b) {
			good[int(fields[0][0])]++
		}
	}
	for _, kind := range []int{api.OpOpen, api.OpMake, api.OpSet, api.OpGet, api.OpMulti, api.OpPing} {
		if good[kind] == 0 {
			t.Errorf("no operations of kind %d", kind)
		}
	}
}
