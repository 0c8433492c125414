package apply

import (
	"bytes"
	"fmt"
	"math"
	"slices"
	"strings"
	"testing"

	"stanchion/api"
)

// numbers: all that a result has, but for an owner.
func numbers(x *api.Result) []*int {
	list := []*int{(*int)(&x.Code), &x.Count, &x.At, &x.Leaf.Version, &x.Leaf.Next, &x.Leaf.Born}
	for i := range x.Events {
		list = append(list, &x.Events[i].Client, &x.Events[i].Kind)
	}
	return list
}

// much: a result of which nothing is zero.
func much() api.Result {
	return api.Result{
		Code: 7, Count: 300, At: 3,
		Leaf:   api.Leaf{Path: "/leaf", Data: []byte("data"), Version: 4, Owner: 5, Next: 6, Born: 200},
		Names:  []string{"/a", "", "no path"},
		Events: []api.Watch{onData(1, "/a"), onKids(2, ""), {Client: 300, Kind: 9, Path: "\xff\x00"}},
	}
}

// some: results.
func some() []api.Result {
	list := []api.Result{{}, told(api.OK), told(api.ErrOp), much(), toldNames([]string{"", ""}), told(0, onKids(0, "/"), onKids(0, "/")), toldPath("/a", 1)}
	x := much()
	x.Code, x.Count, x.At, x.Leaf.Version, x.Leaf.Owner, x.Leaf.Next, x.Leaf.Born = most, most, most, most, most, most, most
	x.Events[1] = api.Watch{Client: most, Kind: most}
	return append(list, x)
}

// P13.1: bytes written out.
func TestPackResultBytes(t *testing.T) {
	for _, x := range []struct {
		x    api.Result
		want string
	}{
		{api.Result{}, "\x07\x00\x00\x00\x00\x01\x00\x00\x00\x00\x00"},
		{told(api.ErrOp), "\x08\x82\x01\x00\x00\x00\x00\x00\x00\x00\x00\x00"},
		{api.Result{Code: 1, Count: 2, At: 3, Leaf: api.Leaf{Path: "/p", Data: []byte("d"), Version: 4, Owner: 4, Next: 6, Born: 7}}, "\x07\x01\x02\x03\x04\x05\x06\x07\x02/p\x01d\x00"},
		{toldNames([]string{"/a", ""}), "\x07\x00\x00\x00\x00\x00\x00\x00\x00\x00\x04\x02/a\x00"},
		{told(0, onData(5, "/a"), onKids(6, "")), "\x07\x00\x00\x00\x00\x00\x00\x00\x00\x00\x00\x06\x02\x05\x01\x02/a\x04\x02\x06\x02\x00"},
	} {
		if b, e := PackResult(x.x); string(b) != x.want || e != api.OK {
			t.Errorf("%s: %q, %d, not %q", text(x.x), b, e, x.want)
		}
		if y, e := ReadResult([]byte(x.want)); text(y) != text(x.x) || e != api.OK {
			t.Errorf("%q: %s, %d, not %s", x.want, text(y), e, text(x.x))
		}
	}
}

// P13.1: no number is below 0 or above 2^62 - 2.
func TestResultNumbers(t *testing.T) {
	for i := range numbers(&api.Result{Events: make([]api.Watch, 3)}) {
		for _, n := range far {
			x, y := much(), api.Result{Events: make([]api.Watch, 3)}
			*numbers(&x)[i], *numbers(&y)[i] = n, n
			results.either(t, fmt.Sprintf("number %d is %d", i, n), x, n >= 0 && n <= most)
			results.either(t, fmt.Sprintf("number %d is %d", i, n), y, n >= 0 && n <= most)
		}
	}
}

// P13.1: no owner is below -1 or above 2^62 - 2.
func TestResultOwner(t *testing.T) {
	for _, n := range far {
		x := much()
		x.Leaf.Owner = n
		results.either(t, fmt.Sprint("owner ", n), x, n >= -1 && n <= most)
		results.either(t, fmt.Sprint("owner ", n), api.Result{Leaf: api.Leaf{Owner: n}}, n >= -1 && n <= most)
	}
	results.refused(t, "owner", api.Result{Leaf: api.Leaf{Owner: math.MaxInt}})
}

// P13.1: texts and data are any bytes, as many as a field has.
func TestResultSizes(t *testing.T) {
	for c := range 256 {
		s := string([]byte{byte(c), byte(c)})
		results.taken(t, s, api.Result{Leaf: api.Leaf{Path: s, Data: []byte(s)}, Names: []string{s}, Events: []api.Watch{onKids(1, s)}})
	}
	for _, n := range []int{0, 1, 127, 128, 65530, 65531, 65532, 65533, 65534, 65535, 65536, 65537, 1 << 20} {
		s := strings.Repeat("s", n)
		results.either(t, fmt.Sprint("path of ", n), api.Result{Leaf: api.Leaf{Path: s}}, n <= 65536)
		results.either(t, fmt.Sprint("data of ", n), api.Result{Leaf: api.Leaf{Data: []byte(s)}}, n <= 65536)
		// A name has its length ahead of it in its list, an event's path its numbers too.
		results.either(t, fmt.Sprint("name of ", n), toldNames([]string{s}), n <= 65533)
		results.either(t, fmt.Sprint("names of ", n), toldNames([]string{"/", s}), n <= 65531)
		results.either(t, fmt.Sprint("event of ", n), told(0, onData(1, s)), n <= 65530)
		results.either(t, fmt.Sprint("events of ", n), told(0, onData(1, ""), onData(1, s)), n <= 65530)
	}
}

// P13.1: a list has at most 1,024 fields: names are a list of their own, events stand behind four others.
func TestResultCounts(t *testing.T) {
	for _, n := range []int{0, 1, 8, 1019, 1020, 1021, 1023, 1024, 1025, 1 << 20} {
		results.either(t, fmt.Sprint(n, " names"), toldNames(make([]string, n)), n <= 1024)
		results.either(t, fmt.Sprint(n, " events"), told(0, make([]api.Watch, n)...), n <= 1020)
		x := toldNames(slices.Repeat([]string{"/a"}, n), slices.Repeat([]api.Watch{onKids(1, "/a")}, n)...)
		results.either(t, fmt.Sprint(n, " of both"), x, n <= 1020)
	}
}

// P13.1: what begins like a result, or has one in it, isn't it; each byte counts.
func TestReadResultEachByte(t *testing.T) {
	for _, x := range some() {
		results.taken(t, "a result", x)
		b, _ := otherResult(x)
		results.alone(t, b)
	}
	results.nothing(t, "nil", nil)
	results.nothing(t, "empty", []byte{})
}

// P13.1: fields that are one too few or too many, or are no such field.
func TestReadResultFields(t *testing.T) {
	n := []byte{0, 1, 2, 3, 4, 5, 6}
	names, event := otherJoin([]byte("/a")), otherJoin([]byte{1, 1}, []byte("/a"))
	if !results.whole(t, otherJoin(n, nil, nil, names, event, event)) {
		t.Error("a result")
	}
	for _, fields := range [][][]byte{{}, {n}, {n, nil}, {n, nil, nil}, {nil, n, nil, nil}, {n[:6], nil, nil, nil}, {append(n, 0), nil, nil, nil}, {append(n[:6:6], 134, 0), nil, nil, nil}, {append(n[:6:6], 134), nil, nil, nil}} {
		results.nothing(t, "fields", otherJoin(fields...))
	}
	for _, field := range [][]byte{{1}, {128, 0}, {2, 65}, append(bytes.Clone(names), 1)} {
		results.nothing(t, "names", otherJoin(n, nil, nil, field))
	}
	for _, field := range [][]byte{nil, {1}, otherJoin([]byte{1, 1}), otherJoin([]byte{1, 1}, nil, nil), otherJoin([]byte{1}, nil), otherJoin([]byte{1, 1, 1}, nil), otherJoin([]byte{1, 129, 0}, nil), otherJoin([]byte{1, 129}, nil), append(bytes.Clone(event), 0)} {
		results.nothing(t, "an event", otherJoin(n, nil, nil, nil, field))
		results.nothing(t, "an event", otherJoin(n, nil, nil, nil, event, field))
		results.nothing(t, "an event", otherJoin(n, nil, nil, nil, field, event))
	}
}

// P1: great arguments end soon.
func TestResultGreat(t *testing.T) {
	for _, b := range [][]byte{make([]byte, 1<<24), bytes.Repeat([]byte{255}, 1<<24), bytes.Repeat([]byte("\x80\x80\x04"), 1<<23)} {
		results.nothing(t, "great", b)
	}
	results.unpacked(t, "names", api.Result{Names: make([]string, 1<<24)})
	results.unpacked(t, "events", api.Result{Events: make([]api.Watch, 1<<22)})
}
