package tally

import (
	"bytes"
	"slices"
	"testing"
)

// roomy: the bytes s, with other bytes behind their length in their memory; and all that memory.
func roomy(s string) (b, whole []byte) {
	whole = append([]byte(s), "behind the length"...)
	return whole[:len(s)], whole
}

// spoil: all that b's memory holds is another, spare room too.
func spoil(b []byte) {
	b = b[:cap(b)]
	for i := range b {
		b[i] ^= 0x55
	}
}

// spoilNumbers: likewise.
func spoilNumbers(list []int) {
	list = list[:cap(list)]
	for i := range list {
		list[i] = -9
	}
}

// three: a tally of three votes, of which two agree, and one voter without a vote.
func three(t *testing.T) *Tally {
	t.Helper()
	return with(t, 4, said{0, 1, "key", "load 0"}, said{1, 2, "other", "load 1"}, said{2, 1, "key", "load 2"})
}

// held: what all calls answer of a tally such as three.
func held(x *Tally) []any {
	return all(x, []int{0, 1, 2}, []string{"", "key", "other", "load 0"})
}

// P7.4: keys and loads are as they were, and aren't kept.
func TestPutMemory(t *testing.T) {
	for _, s := range [][2]string{{"key", "load"}, {"", ""}, {"", "load"}, {"key", ""}} {
		for _, rank := range []int{-1, 1, 2} {
			key, keyWhole := roomy(s[0])
			load, loadWhole := roomy(s[1])
			keyWas, loadWas := bytes.Clone(keyWhole), bytes.Clone(loadWhole)
			x := with(t, 2, said{0, 1, "first", "vote"})
			took := x.Put(0, rank, key, load)
			x.Have(rank, key)
			x.Have(1, key)
			if !bytes.Equal(keyWhole, keyWas) || !bytes.Equal(loadWhole, loadWas) {
				t.Errorf("rank %d: %q, %q", rank, keyWhole, loadWhole)
			}
			spoil(keyWhole)
			spoil(loadWhole)
			if took {
				stands(t, x, said{0, rank, s[0], s[1]})
				agrees(t, x, 1, agreed{rank, s[0], []int{0}, true})
			} else {
				stands(t, x, said{0, 1, "first", "vote"})
			}
		}
	}
}

// P7.4: one memory may be handed in as key and load, and of several votes.
func TestSameMemory(t *testing.T) {
	b := []byte("bytes")
	x := New(3)
	for voter := range 3 {
		if !x.Put(voter, 1, b[:3], b) {
			t.Fatal(voter)
		}
	}
	_, key, _, _ := x.Agree(3)
	if !x.Put(0, 2, key, x.Load(1)) {
		t.Fatal("what was answered")
	}
	spoil(b)
	spoil(key)
	stands(t, x, said{0, 2, "byt", "bytes"})
	stands(t, x, said{1, 1, "byt", "bytes"})
	stands(t, x, said{2, 1, "byt", "bytes"})
}

// P7.4, rule 5: what is answered is new memory: neither the tally nor another answer hangs on it, and it hangs on nothing that comes.
func TestAnswersMemory(t *testing.T) {
	x := three(t)
	was := held(x)
	_, key, voters, _ := x.Agree(2)
	_, otherKey, otherVoters, _ := x.Agree(2)
	had, otherHad := x.Have(1, []byte("key")), x.Have(1, []byte("key"))
	load, otherLoad := x.Load(0), x.Load(0)
	_ = append(key, "more and more"...)
	_ = append(load, "more and more"...)
	_ = append(voters, 7, 7, 7)
	_ = append(had, 7, 7, 7)
	spoil(key)
	spoil(load)
	spoilNumbers(voters)
	spoilNumbers(had)
	same(t, "spoiled", held(x), was)
	put(t, x, said{0, 3, "KEY", "LOAD 0"}, said{1, 3, "KEY", "LOAD 1"}, said{2, 3, "KEY", "LOAD 2"}, said{3, 3, "KEY", "LOAD 3"})
	if string(otherKey) != "key" || string(otherLoad) != "load 0" || !slices.Equal(otherVoters, []int{0, 2}) || !slices.Equal(otherHad, []int{0, 2}) {
		t.Errorf("%q, %q, %v, %v", otherKey, otherLoad, otherVoters, otherHad)
	}
}

// P7.4, rule 5: nothing stands in an answer's spare room.
func TestSpareRoom(t *testing.T) {
	for n := range 65 {
		x := New(64)
		for voter := range n {
			put(t, x, said{voter, 1, string(bytes.Repeat([]byte("k"), n)), string(bytes.Repeat([]byte("l"), voter))})
		}
		_, key, voters, _ := x.Agree(n)
		for _, b := range [][]byte{key, x.Load(n - 1)} {
			if room := b[len(b):cap(b)]; bytes.ContainsAny(room, "kl") {
				t.Errorf("%d voters: spare room %q", n, room)
			}
		}
		for _, list := range [][]int{voters, x.Have(1, key)} {
			for _, voter := range list[len(list):cap(list)] {
				if voter != 0 {
					t.Errorf("%d voters: spare room %d", n, voter)
				}
			}
		}
	}
}

// P7.4: two tallies have nothing in common.
func TestTalliesApart(t *testing.T) {
	a, b := three(t), three(t)
	was := held(b)
	put(t, a, said{3, 9, "key", "x"}, said{0, 9, "key", "x"}, said{2, 9, "", ""})
	same(t, "the other", held(b), was)
	empty(t, New(4))
}

// P7.4: a nil key or load is an empty one.
func TestNilIsEmpty(t *testing.T) {
	x, y := New(2), New(2)
	if !x.Put(0, 1, nil, nil) || !x.Put(1, 1, []byte{}, []byte{}) || !y.Put(0, 1, []byte{}, nil) || !y.Put(1, 1, nil, []byte{}) {
		t.Fatal("Put")
	}
	same(t, "the other", held(x), held(y))
	agrees(t, x, 2, agreed{1, "", []int{0, 1}, true})
	if had := x.Have(1, nil); !slices.Equal(had, []int{0, 1}) {
		t.Error(had)
	}
}

// P7.4, P2: all calls but Put change nothing.
func TestAskingChangesNothing(t *testing.T) {
	x := three(t)
	was := held(x)
	for range 3 {
		same(t, "asked again", held(x), was)
	}
	put(t, x, said{3, 1, "key", ""})
	agrees(t, x, 3, agreed{1, "key", []int{0, 2, 3}, true})
}
