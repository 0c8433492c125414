// Package pack is layer 1: see shared/doc/01-pack.md.
package pack

import (
	"bytes"

	"stanchion/api"
)

// A number's groups: seven bits each. Eight of them leave six of the 62 bits to a ninth.
const (
	groupBits = 7
	more      = 1 << groupBits // what all groups but the last have on top
	ninth     = 8
	topValue  = api.MaxNum>>(ninth*groupBits) - 1
)

// Num: a number's bytes.
func Num(v int) ([]byte, api.Errno) {
	return appendNum(nil, v)
}

// Read: the number at the beginning, and the rest.
func Read(b []byte) (int, []byte, api.Errno) {
	v, rest, e := cutNum(b)
	return v, bytes.Clone(rest), e
}

// Join: a list of fields.
func Join(fields ...[]byte) ([]byte, api.Errno) {
	if len(fields) > api.MaxParts {
		return nil, api.ErrLong
	}
	var list []byte
	for _, field := range fields {
		if len(field) > api.MaxField {
			return nil, api.ErrLong
		}
		// No count up to MaxField is refused.
		list, _ = appendNum(list, len(field))
		list = append(list, field...)
	}
	return list, api.OK
}

// Split: the fields of a list.
func Split(b []byte) ([][]byte, api.Errno) {
	var fields [][]byte
	for len(b) > 0 {
		// A field too many is one at its beginning: whatever its bytes are.
		if len(fields) == api.MaxParts {
			return nil, api.ErrLong
		}
		field, rest, e := cutField(b)
		if e != api.OK {
			return nil, e
		}
		fields = append(fields, bytes.Clone(field))
		b = rest
	}
	return fields, api.OK
}

// Nums: numbers behind one another.
func Nums(list ...int) ([]byte, api.Errno) {
	var b []byte
	for _, v := range list {
		var e api.Errno
		b, e = appendNum(b, v)
		if e != api.OK {
			return nil, e
		}
	}
	return b, api.OK
}

// Ints: the numbers that bytes are.
func Ints(b []byte) ([]int, api.Errno) {
	var list []int
	for len(b) > 0 {
		v, rest, e := cutNum(b)
		if e != api.OK {
			return nil, e
		}
		list = append(list, v)
		b = rest
	}
	return list, api.OK
}

// appendNum: b, and v's bytes behind it. It may write into b's spare room, so b must be memory that no caller of the package has.
func appendNum(b []byte, v int) ([]byte, api.Errno) {
	if v < 0 || v >= api.MaxNum {
		return nil, api.ErrNum
	}
	for v >= more {
		b = append(b, byte(v%more+more))
		v /= more
	}
	return append(b, byte(v)), api.OK
}

// cutNum: the number that b begins with, and what stands behind it, a piece of b. A copy of the rest at each number would take a long list's time squared.
func cutNum(b []byte) (int, []byte, api.Errno) {
	v := 0
	for i, c := range b {
		group, last := int(c%more), c < more
		if i == ninth && (!last || group > topValue) {
			return 0, nil, api.ErrForm
		}
		if i > 0 && c == 0 {
			return 0, nil, api.ErrForm
		}
		v |= group << (i * groupBits)
		if last {
			return v, b[i+1:], api.OK
		}
	}
	return 0, nil, api.ErrShort
}

// cutField: the field that b begins with, and what stands behind it, pieces of b.
func cutField(b []byte) (field, rest []byte, e api.Errno) {
	size, rest, e := cutNum(b)
	if e != api.OK {
		return nil, nil, e
	}
	if size > api.MaxField {
		return nil, nil, api.ErrLong
	}
	if size > len(rest) {
		return nil, nil, api.ErrShort
	}
	return rest[:size], rest[size:], api.OK
}
