package apply

import (
	"bytes"
	"slices"

	"stanchion/api"
	"stanchion/pack"
)

// The flags that stand together in one number of an operation's bytes.
const (
	briefFlag = 1 << iota
	numberedFlag
	watchFlag
)

// The fields that an operation may have beside its kind, a bit each.
const (
	pathField = 1 << iota
	dataField
	versionField
	spanField
	briefField
	numberedField
	watchField
	opsField
)

const (
	opNumbers = 4 // in an operation's first field
	opFields  = 3 // ahead of those of Ops
)

// Pack: an operation's bytes.
func Pack(o api.Op) ([]byte, api.Errno) {
	if !isRight(o) {
		return nil, api.ErrOp
	}
	b, e := packOp(o)
	if e != api.OK || len(b) > api.MaxOp {
		return nil, api.ErrOp
	}
	return b, api.OK
}

// Read: the operation of bytes.
func Read(b []byte) (api.Op, api.Errno) {
	// No more bytes than an operation has are gone through: so what is nested in them isn't deep.
	if len(b) > api.MaxOp {
		return api.Op{}, api.ErrOp
	}
	o, whole := readOp(b)
	again, e := Pack(o)
	if !whole || e != api.OK || !bytes.Equal(again, b) {
		return api.Op{}, api.ErrOp
	}
	return o, api.OK
}

// isRight: is it right, but for how many bytes it has?
func isRight(o api.Op) bool {
	fields, there := fieldsOf(o.Kind)
	if !there || filled(o)&^fields != 0 {
		return false
	}
	if o.Version < anyVersion || o.Version >= api.MaxWide || !isWide(o.Span) {
		return false
	}
	// Only OpMulti comes here with Ops, and it is no change: so this ends, whatever they are.
	return len(o.Ops) <= api.MaxMulti && !slices.ContainsFunc(o.Ops, func(part api.Op) bool {
		return !isChange(part.Kind) || !isRight(part)
	})
}

// isChange: is it a kind that changes the tree by itself?
func isChange(kind int) bool {
	return kind == api.OpMake || kind == api.OpDrop || kind == api.OpSet
}

// fieldsOf: which fields a kind has, and whether there is such a kind.
func fieldsOf(kind int) (fields int, there bool) {
	switch kind {
	case api.OpOpen:
		return spanField, true
	case api.OpClose, api.OpPing:
		return 0, true
	case api.OpMake:
		return pathField | dataField | briefField | numberedField, true
	case api.OpDrop:
		return pathField | versionField, true
	case api.OpSet:
		return pathField | dataField | versionField, true
	case api.OpGet, api.OpKids:
		return pathField | watchField, true
	case api.OpMulti:
		return opsField, true
	}
	return 0, false
}

// filled: which fields of the operation aren't zero.
func filled(o api.Op) int {
	return bit(pathField, o.Path != "") |
		bit(dataField, len(o.Data) > 0) |
		bit(versionField, o.Version != 0) |
		bit(spanField, o.Span != 0) |
		bit(briefField, o.Brief) |
		bit(numberedField, o.Numbered) |
		bit(watchField, o.Watch) |
		bit(opsField, len(o.Ops) > 0)
}

// bit: b, if it is on; else 0.
func bit(b int, on bool) int {
	if on {
		return b
	}
	return 0
}

// packOp: the bytes of an operation that is right, but may have too many.
func packOp(o api.Op) ([]byte, api.Errno) {
	flags := bit(briefFlag, o.Brief) | bit(numberedFlag, o.Numbered) | bit(watchFlag, o.Watch)
	numbers, e := pack.Nums(o.Kind, o.Version+1, o.Span, flags)
	if e != api.OK {
		return nil, e
	}
	fields := [][]byte{numbers, []byte(o.Path), o.Data}
	for _, part := range o.Ops {
		b, e := packOp(part)
		if e != api.OK {
			return nil, e
		}
		fields = append(fields, b)
	}
	return pack.Join(fields...)
}

// readOp: the operation of bytes, right or not; false, if they are of none.
func readOp(b []byte) (api.Op, bool) {
	fields, e := pack.Split(b)
	if e != api.OK || len(fields) < opFields {
		return api.Op{}, false
	}
	numbers, e := pack.Ints(fields[0])
	if e != api.OK || len(numbers) != opNumbers {
		return api.Op{}, false
	}
	flags := numbers[3]
	o := api.Op{
		Kind:     numbers[0],
		Path:     string(fields[1]),
		Data:     fields[2],
		Version:  numbers[1] - 1,
		Span:     numbers[2],
		Brief:    flags&briefFlag != 0,
		Numbered: flags&numberedFlag != 0,
		Watch:    flags&watchFlag != 0,
	}
	for _, field := range fields[opFields:] {
		part, whole := readOp(field)
		if !whole {
			return api.Op{}, false
		}
		o.Ops = append(o.Ops, part)
	}
	return o, true
}
