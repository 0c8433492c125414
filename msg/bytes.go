package msg

import (
	"stanchion/api"
	"stanchion/pack"
)

// packMsg: the bytes of a right message.
func packMsg(m api.Msg) []byte {
	fields := [][]byte{must(pack.Num(m.Kind))}
	for _, p := range partsOf(m.Kind) {
		fields = append(fields, packPart(m, p))
	}
	return must(pack.Join(fields...))
}

// packPart: the bytes of one of its parts.
func packPart(m api.Msg, p part) []byte {
	switch p {
	case view:
		return must(pack.Num(m.View))
	case seq:
		return must(pack.Num(m.Seq))
	case client:
		return must(pack.Num(m.Client))
	case stamp:
		return must(pack.Num(m.Stamp))
	case entry:
		return packEntry(m.Entry)
	case digest:
		return m.Digest
	case data:
		return m.Data
	case proof:
		return packList(m.Proof, packLetter)
	}
	return packList(m.Proven, packProven)
}

// readMsg: the message of bytes, right or not.
func readMsg(b []byte) api.Msg {
	fields := must(pack.Split(b))
	need(len(fields) > 0)
	m := api.Msg{Kind: readNum(fields[0])}
	parts := partsOf(m.Kind)
	for i, field := range exactly(len(parts), fields[1:]) {
		readPart(&m, parts[i], field)
	}
	return m
}

// readPart: the message has the part that bytes are.
func readPart(m *api.Msg, p part, b []byte) {
	switch p {
	case view:
		m.View = readNum(b)
	case seq:
		m.Seq = readNum(b)
	case client:
		m.Client = readNum(b)
	case stamp:
		m.Stamp = readNum(b)
	case entry:
		m.Entry = readEntry(b)
	case digest:
		m.Digest = b
	case data:
		m.Data = b
	case proof:
		m.Proof = readList(b, readLetter)
	case proven:
		m.Proven = readList(b, readProven)
	}
}

// packEntry: the bytes of a right entry.
func packEntry(e api.Entry) []byte {
	return must(pack.Join(must(pack.Nums(e.Client+1, e.Stamp, e.Time)), e.Digest))
}

// readEntry: the entry of bytes, right or not.
func readEntry(b []byte) api.Entry {
	fields := exactly(2, must(pack.Split(b)))
	numbers := readNums(3, fields[0])
	return api.Entry{Client: numbers[0] - 1, Stamp: numbers[1], Time: numbers[2], Digest: fields[1]}
}

// packLetter: the bytes of a right letter.
func packLetter(l api.Letter) []byte {
	return must(pack.Join(must(pack.Nums(l.From.Role, l.From.N, l.Role)), l.Body, must(pack.Join(l.Tags...))))
}

// readLetter: the letter of bytes, right or not.
func readLetter(b []byte) api.Letter {
	fields := exactly(3, must(pack.Split(b)))
	numbers := readNums(3, fields[0])
	from := api.Id{Role: numbers[0], N: numbers[1]}
	return api.Letter{From: from, Role: numbers[2], Body: fields[1], Tags: must(pack.Split(fields[2]))}
}

// packProven: the bytes of something proven that is right.
func packProven(p api.Proven) []byte {
	return must(pack.Join(must(pack.Nums(p.Seq, p.View)), packEntry(p.Entry), packList(p.Votes, packLetter)))
}

// readProven: what is proven by bytes, right or not.
func readProven(b []byte) api.Proven {
	fields := exactly(3, must(pack.Split(b)))
	numbers := readNums(2, fields[0])
	return api.Proven{Seq: numbers[0], View: numbers[1], Entry: readEntry(fields[1]), Votes: readList(fields[2], readLetter)}
}

// readNum: the one number that bytes are.
func readNum(b []byte) int {
	return readNums(1, b)[0]
}

// readNums: the so many numbers that bytes are.
func readNums(count int, b []byte) []int {
	return exactly(count, must(pack.Ints(b)))
}

// packList: the list of what each is as bytes.
func packList[T any](list []T, toBytes func(T) []byte) []byte {
	var fields [][]byte
	for _, x := range list {
		fields = append(fields, toBytes(x))
	}
	return must(pack.Join(fields...))
}

// readList: what each field of a list is.
func readList[T any](b []byte, fromBytes func([]byte) T) []T {
	var list []T
	for _, field := range must(pack.Split(b)) {
		list = append(list, fromBytes(field))
	}
	return list
}
