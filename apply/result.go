package apply

import (
	"bytes"
	"slices"

	"stanchion/api"
	"stanchion/pack"
)

const (
	greatest      = api.MaxNum - 2 // number of a result; an owner's is written as one more
	resultNumbers = 7              // in a result's first field
	resultFields  = 4              // ahead of those of Events
	eventNumbers  = 2
	eventFields   = 2
)

// PackResult: a result's bytes.
func PackResult(x api.Result) ([]byte, api.Errno) {
	// Of more parts there is no list: lists of any size aren't gone through for that.
	if max(len(x.Names), len(x.Events)) > api.MaxParts || !areNumbers(numbersOf(x)...) {
		return nil, api.ErrOp
	}
	b, e := packResult(x)
	if e != api.OK {
		return nil, api.ErrOp
	}
	return b, api.OK
}

// ReadResult: the result of bytes.
func ReadResult(b []byte) (api.Result, api.Errno) {
	x, whole := readResult(b)
	again, e := PackResult(x)
	if !whole || e != api.OK || !bytes.Equal(again, b) {
		return api.Result{}, api.ErrOp
	}
	return x, api.OK
}

// numbersOf: all numbers of a result but the owner: that one's bounds are those of what is written of it.
func numbersOf(x api.Result) []int {
	list := []int{int(x.Code), x.Count, x.At, x.Leaf.Version, x.Leaf.Next, x.Leaf.Born}
	for _, w := range x.Events {
		list = append(list, w.Client, w.Kind)
	}
	return list
}

// areNumbers: may a result have all of these?
func areNumbers(list ...int) bool {
	return !slices.ContainsFunc(list, func(n int) bool { return n < 0 || n > greatest })
}

// packResult: the bytes of a result whose numbers can be written.
func packResult(x api.Result) ([]byte, api.Errno) {
	l := x.Leaf
	numbers, e := pack.Nums(int(x.Code), x.Count, x.At, l.Version, l.Owner+1, l.Next, l.Born)
	if e != api.OK {
		return nil, e
	}
	names, e := packNames(x.Names)
	if e != api.OK {
		return nil, e
	}
	fields := [][]byte{numbers, []byte(l.Path), l.Data, names}
	for _, w := range x.Events {
		b, e := packEvent(w)
		if e != api.OK {
			return nil, e
		}
		fields = append(fields, b)
	}
	return pack.Join(fields...)
}

// packNames: the bytes of names.
func packNames(names []string) ([]byte, api.Errno) {
	var fields [][]byte
	for _, name := range names {
		fields = append(fields, []byte(name))
	}
	return pack.Join(fields...)
}

// packEvent: an event's bytes.
func packEvent(w api.Watch) ([]byte, api.Errno) {
	numbers, e := pack.Nums(w.Client, w.Kind)
	if e != api.OK {
		return nil, e
	}
	return pack.Join(numbers, []byte(w.Path))
}

// readResult: the result of bytes; false, if they are of none.
func readResult(b []byte) (api.Result, bool) {
	fields, e := pack.Split(b)
	if e != api.OK || len(fields) < resultFields {
		return api.Result{}, false
	}
	n, e := pack.Ints(fields[0])
	if e != api.OK || len(n) != resultNumbers {
		return api.Result{}, false
	}
	names, e := pack.Split(fields[3])
	if e != api.OK {
		return api.Result{}, false
	}
	x := api.Result{
		Code:  api.Errno(n[0]),
		Count: n[1],
		At:    n[2],
		Leaf:  api.Leaf{Path: string(fields[1]), Data: fields[2], Version: n[3], Owner: n[4] - 1, Next: n[5], Born: n[6]},
	}
	for _, name := range names {
		x.Names = append(x.Names, string(name))
	}
	for _, field := range fields[resultFields:] {
		w, whole := readEvent(field)
		if !whole {
			return api.Result{}, false
		}
		x.Events = append(x.Events, w)
	}
	return x, true
}

// readEvent: the event of bytes; false, if they are of none.
func readEvent(b []byte) (api.Watch, bool) {
	fields, e := pack.Split(b)
	if e != api.OK || len(fields) != eventFields {
		return api.Watch{}, false
	}
	numbers, e := pack.Ints(fields[0])
	if e != api.OK || len(numbers) != eventNumbers {
		return api.Watch{}, false
	}
	return api.Watch{Client: numbers[0], Kind: numbers[1], Path: string(fields[1])}, true
}
