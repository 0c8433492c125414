package tally

import (
	"bytes"
	"math"
	"slices"
	"testing"
)

// P7.1: so many voters there are: none below 1, at most 64.
func TestVoters(t *testing.T) {
	counts := slices.Clone(far)
	for n := -3; n <= 130; n++ {
		counts = append(counts, n)
	}
	for _, n := range counts {
		x := New(n)
		empty(t, x)
		for _, voter := range far {
			if x.Put(voter, 1, nil, nil) {
				t.Errorf("of %d: voter %d is there", n, voter)
			}
		}
		for voter := -70; voter < 140; voter++ {
			if got := x.Put(voter, 1, []byte("k"), nil); got != (0 <= voter && voter < n && voter < 64) {
				t.Errorf("of %d: voter %d: %v", n, voter, got)
			}
		}
		have(t, x, 1, "k", upTo(min(max(n, 0), 64))...)
	}
}

// upTo: the numbers from 0 to n - 1.
func upTo(n int) []int {
	var list []int
	for i := range n {
		list = append(list, i)
	}
	return list
}

// P7.1: a vote without a voter or with a rank below 0 is none, and nothing has changed.
func TestNoVote(t *testing.T) {
	for _, x := range []*Tally{New(0), New(3), with(t, 3, said{0, 0, "", "l"}, said{2, 5, "k", ""})} {
		ranks, keys := []int{-1, 0, 1, 5}, []string{"", "k", "x"}
		was := all(x, ranks, keys)
		for _, rank := range []int{math.MinInt, math.MinInt + 1, -1 << 32, -2, -1} {
			for voter := -1; voter < 4; voter++ {
				if x.Put(voter, rank, []byte("x"), []byte("y")) {
					t.Errorf("voter %d, rank %d", voter, rank)
				}
			}
		}
		for _, voter := range append([]int{3, 4, 63, 64}, far...) {
			for _, rank := range []int{-1, 0, 1, 6, math.MaxInt} {
				if x.Put(voter, rank, []byte("x"), []byte("y")) {
					t.Errorf("voter %d, rank %d", voter, rank)
				}
			}
		}
		same(t, "nothing put", all(x, ranks, keys), was)
	}
}

// P7.1: of each voter a vote stays till there is one of a greater rank; of the same rank or a lesser one none is taken, whatever else it says, and nothing has changed.
func TestGreaterRanks(t *testing.T) {
	ranks := []int{0, 1, 2, 3, 127, 128, 255, 256, 1<<31 - 1, 1 << 31, 1 << 32, 1<<62 - 1, 1 << 62, math.MaxInt - 1, math.MaxInt}
	for _, first := range ranks {
		for _, then := range ranks {
			for _, key := range []string{"", "a", "k", "z"} {
				old, fresh := said{1, first, "k", "load"}, said{1, then, key, "other"}
				x := with(t, 3, said{0, 1, "k", "of 0"}, old)
				was := all(x, ranks, []string{"", "a", "k", "z"})
				if got := x.Put(1, then, []byte(key), []byte("other")); got != (then > first) {
					t.Errorf("%d, then %d: %v", first, then, got)
				}
				stands(t, x, said{0, 1, "k", "of 0"})
				if then > first {
					stands(t, x, fresh)
				} else {
					same(t, "refused", all(x, ranks, []string{"", "a", "k", "z"}), was)
				}
			}
		}
	}
}

// P7.1: the same vote again isn't taken; of rank 0, without a key and a load neither.
func TestSameVote(t *testing.T) {
	for _, v := range []said{{0, 0, "", ""}, {1, 0, "a", "l"}, {0, 7, "", ""}, {1, 7, "a", "l"}} {
		x := with(t, 2, v)
		for range 3 {
			if x.Put(v.voter, v.rank, []byte(v.key), []byte(v.load)) {
				t.Errorf("%v is taken again", v)
			}
		}
		if v.key == "" && x.Put(v.voter, v.rank, nil, nil) {
			t.Errorf("%v is taken again", v)
		}
		stands(t, x, v)
		reaches(t, x, 1, v.rank)
		reaches(t, x, 2, -1)
	}
}

// P7.1: a voter's older vote counts no more, for no call.
func TestOldVoteIsGone(t *testing.T) {
	x := with(t, 3, said{0, 1, "a", "old"}, said{1, 1, "a", ""}, said{2, 1, "a", ""})
	agrees(t, x, 3, agreed{1, "a", []int{0, 1, 2}, true})
	put(t, x, said{0, 2, "a", "new"})
	agrees(t, x, 3, agreed{})
	agrees(t, x, 2, agreed{1, "a", []int{1, 2}, true})
	have(t, x, 1, "a", 1, 2)
	have(t, x, 2, "a", 0)
	put(t, x, said{0, 3, "b", ""}, said{1, 3, "b", ""})
	have(t, x, 2, "a")
	have(t, x, 1, "a", 2)
	stands(t, x, said{0, 3, "b", ""})
	agrees(t, x, 2, agreed{3, "b", []int{0, 1}, true})
	agrees(t, x, 3, agreed{})
}

// P7.1, P1: keys and loads of any length stand, byte by byte.
func TestLongVotes(t *testing.T) {
	long := bytes.Repeat([]byte{0, 1, 254, 255}, 1<<18)
	x := New(64)
	for voter := range 64 {
		if !x.Put(voter, 9, long, long[voter:]) {
			t.Fatal(voter)
		}
	}
	rank, key, voters, ok := x.Agree(64)
	if rank != 9 || !bytes.Equal(key, long) || len(voters) != 64 || !ok {
		t.Error(rank, len(key), voters, ok)
	}
	for voter := range 64 {
		if !bytes.Equal(x.Load(voter), long[voter:]) {
			t.Errorf("load of %d", voter)
		}
	}
}

// P1: many calls end soon.
func TestManyCalls(t *testing.T) {
	x := New(64)
	for rank := range 2000 {
		for voter := range 64 {
			put(t, x, said{voter, rank, "key", "load"})
		}
		agrees(t, x, 64, agreed{rank, "key", upTo(64), true})
		reaches(t, x, 64, rank)
	}
}
