package snap

import (
	"slices"

	"stanchion/api"
	"stanchion/pack"
)

// packImage: the bytes of an image that a space can be.
func packImage(m api.Image) []byte {
	return must(pack.Join(
		must(pack.Nums(m.Time, m.Count)),
		packList(m.Leaves, packLeaf),
		packList(m.Watches, packWatch),
		packList(m.Events, packWatch),
		packSessions(m.Sessions),
		packList(m.Replies, packReply),
	))
}

// readImage: the image of bytes, whether a space can be it or not.
func readImage(b []byte) api.Image {
	fields := exactly(6, must(pack.Split(b)))
	numbers := readNums(2, fields[0])
	return api.Image{
		Time:     numbers[0],
		Count:    numbers[1],
		Leaves:   readList(fields[1], readLeaf),
		Watches:  readList(fields[2], readWatch),
		Events:   readList(fields[3], readWatch),
		Sessions: readSessions(fields[4]),
		Replies:  readList(fields[5], readReply),
	}
}

// packLeaf: a node's bytes. Owners begin with -1, and numbers that have bytes with 0.
func packLeaf(l api.Leaf) []byte {
	return must(pack.Join([]byte(l.Path), l.Data, must(pack.Nums(l.Version, l.Owner+1, l.Next, l.Born))))
}

// readLeaf: the node of bytes.
func readLeaf(b []byte) api.Leaf {
	fields := exactly(3, must(pack.Split(b)))
	numbers := readNums(4, fields[2])
	return api.Leaf{
		Path:    string(fields[0]),
		Data:    fields[1],
		Version: numbers[0],
		Owner:   numbers[1] - 1,
		Next:    numbers[2],
		Born:    numbers[3],
	}
}

// packWatch: the bytes of a watch, or of an event.
func packWatch(w api.Watch) []byte {
	return must(pack.Join(must(pack.Nums(w.Client, w.Kind)), []byte(w.Path)))
}

// readWatch: the watch, or the event, of bytes.
func readWatch(b []byte) api.Watch {
	fields := exactly(2, must(pack.Split(b)))
	numbers := readNums(2, fields[0])
	return api.Watch{Client: numbers[0], Kind: numbers[1], Path: string(fields[1])}
}

// packSessions: sessions' bytes: their numbers behind one another.
func packSessions(list []api.Session) []byte {
	var numbers []int
	for _, s := range list {
		numbers = append(numbers, s.Client, s.Span, s.Seen)
	}
	return must(pack.Nums(numbers...))
}

// readSessions: the sessions of bytes.
func readSessions(b []byte) []api.Session {
	var list []api.Session
	for piece := range slices.Chunk(must(pack.Ints(b)), 3) {
		numbers := exactly(3, piece)
		list = append(list, api.Session{Client: numbers[0], Span: numbers[1], Seen: numbers[2]})
	}
	return list
}

// packReply: a reply's bytes.
func packReply(r api.Reply) []byte {
	return must(pack.Join(must(pack.Nums(r.Client, r.Stamp)), r.Data))
}

// readReply: the reply of bytes.
func readReply(b []byte) api.Reply {
	fields := exactly(2, must(pack.Split(b)))
	numbers := readNums(2, fields[0])
	return api.Reply{Client: numbers[0], Stamp: numbers[1], Data: fields[1]}
}

// readNums: the so many numbers that bytes are.
func readNums(count int, b []byte) []int {
	return exactly(count, must(pack.Ints(b)))
}

// packList: the list of what each is as bytes.
func packList[T any](list []T, toBytes func(T) []byte) []byte {
	var fields [][]byte
	for _, x := range list {
		fields = append(fields, toBytes(x))
	}
	return must(pack.Join(fields...))
}

// readList: what each field of a list is.
func readList[T any](b []byte, fromBytes func([]byte) T) []T {
	var list []T
	for _, field := range must(pack.Split(b)) {
		list = append(list, fromBytes(field))
	}
	return list
}
