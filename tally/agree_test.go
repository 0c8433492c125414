package tally

import (
	"math"
	"slices"
	"testing"
)

// orders: these votes in all orders.
func orders(votes []said) [][]said {
	if len(votes) < 2 {
		return [][]said{votes}
	}
	var list [][]said
	for i := range votes {
		for _, rest := range orders(slices.Concat(votes[:i], votes[i+1:])) {
			list = append(list, append([]said{votes[i]}, rest...))
		}
	}
	return list
}

// P7.2, P7.3: Agree and Reach of each k from 1 on, in whatever order the votes came.
func TestAgree(t *testing.T) {
	for _, x := range []struct {
		name    string
		votes   []said
		agreed  []agreed // of 1, 2, ..; of more: none
		reached []int    // likewise
	}{
		{"none", nil, nil, nil},
		{"one", []said{{2, 0, "", ""}}, []agreed{{0, "", []int{2}, true}}, []int{0}},
		{"the chapter's", []said{{0, 1, "a", ""}, {1, 2, "b", ""}, {2, 1, "a", ""}},
			[]agreed{{2, "b", []int{1}, true}, {1, "a", []int{0, 2}, true}}, []int{2, 1, 1}},
		{"all", []said{{0, 3, "k", ""}, {1, 3, "k", "l"}, {2, 3, "k", "m"}},
			[]agreed{{3, "k", []int{0, 1, 2}, true}, {3, "k", []int{0, 1, 2}, true}, {3, "k", []int{0, 1, 2}, true}}, []int{3, 3, 3}},
		{"each another key", []said{{0, 3, "c", ""}, {1, 3, "a", ""}, {2, 3, "b", ""}},
			[]agreed{{3, "a", []int{1}, true}}, []int{3, 3, 3}},
		{"each another rank", []said{{0, 3, "k", ""}, {1, 5, "k", ""}, {2, 4, "k", ""}},
			[]agreed{{5, "k", []int{1}, true}}, []int{5, 4, 3}},
		{"two of two: the greater rank, not the lesser key", []said{{0, 1, "a", ""}, {3, 2, "b", ""}, {1, 2, "b", ""}, {2, 1, "a", ""}},
			[]agreed{{2, "b", []int{1, 3}, true}, {2, "b", []int{1, 3}, true}}, []int{2, 2, 1, 1}},
		{"two of two: the lesser key, not the lesser voters", []said{{0, 1, "b", ""}, {1, 1, "b", ""}, {2, 1, "a", ""}, {3, 1, "a", ""}},
			[]agreed{{1, "a", []int{2, 3}, true}, {1, "a", []int{2, 3}, true}}, []int{1, 1, 1, 1}},
		{"the greater rank, not more voters", []said{{0, 1, "a", ""}, {1, 1, "a", ""}, {2, 1, "a", ""}, {3, 7, "a", ""}, {4, 7, "a", ""}},
			[]agreed{{7, "a", []int{3, 4}, true}, {7, "a", []int{3, 4}, true}, {1, "a", []int{0, 1, 2}, true}}, []int{7, 7, 1, 1, 1}},
		{"the lesser key, not more voters", []said{{0, 1, "b", ""}, {1, 1, "b", ""}, {2, 1, "b", ""}, {3, 1, "a", ""}, {4, 1, "a", ""}},
			[]agreed{{1, "a", []int{3, 4}, true}, {1, "a", []int{3, 4}, true}, {1, "b", []int{0, 1, 2}, true}}, []int{1, 1, 1, 1, 1}},
		{"a key alone, ahead of enough", []said{{0, 1, "b", ""}, {1, 1, "a", ""}, {2, 1, "b", ""}},
			[]agreed{{1, "a", []int{1}, true}, {1, "b", []int{0, 2}, true}}, []int{1, 1, 1}},
		{"a key between two alike of another rank", []said{{0, 2, "a", ""}, {1, 2, "b", ""}, {2, 1, "a", ""}, {3, 1, "b", ""}},
			[]agreed{{2, "a", []int{0}, true}}, []int{2, 2, 1, 1}},
		{"enough in two ranks together only", []said{{0, 2, "a", ""}, {1, 1, "a", ""}, {2, 2, "a", ""}, {3, 1, "a", ""}},
			[]agreed{{2, "a", []int{0, 2}, true}, {2, "a", []int{0, 2}, true}}, []int{2, 2, 1, 1}},
		{"no key", []said{{0, 1, "\x00", ""}, {1, 1, "", ""}, {2, 1, "", ""}, {3, 1, "\x00", ""}},
			[]agreed{{1, "", []int{1, 2}, true}, {1, "", []int{1, 2}, true}}, []int{1, 1, 1, 1}},
		{"the front of a key is lesser", []said{{0, 1, "ab", ""}, {1, 1, "ab", ""}, {2, 1, "a", ""}, {3, 1, "a", ""}},
			[]agreed{{1, "a", []int{2, 3}, true}, {1, "a", []int{2, 3}, true}}, []int{1, 1, 1, 1}},
		{"by bytes, not by length", []said{{0, 1, "b", ""}, {1, 1, "b", ""}, {2, 1, "aaa", ""}, {3, 1, "aaa", ""}},
			[]agreed{{1, "aaa", []int{2, 3}, true}, {1, "aaa", []int{2, 3}, true}}, []int{1, 1, 1, 1}},
		{"bytes have no sign", []said{{0, 1, "\x80", ""}, {1, 1, "\xff", ""}, {2, 1, "\x7f", ""}},
			[]agreed{{1, "\x7f", []int{2}, true}}, []int{1, 1, 1}},
		{"bytes are no runes", []said{{0, 1, "\xff", ""}, {1, 1, "\xfe", ""}, {2, 1, "\xff", ""}, {3, 1, "\xfe", ""}},
			[]agreed{{1, "\xfe", []int{1, 3}, true}, {1, "\xfe", []int{1, 3}, true}}, []int{1, 1, 1, 1}},
		{"ranks are held against each other in full", []said{{0, 1 << 32, "k", ""}, {1, 5, "k", ""}, {2, math.MaxInt, "k", ""}, {3, 0, "k", ""}},
			[]agreed{{math.MaxInt, "k", []int{2}, true}}, []int{math.MaxInt, 1 << 32, 5, 0}},
		{"loads don't count", []said{{0, 1, "k", "z"}, {1, 1, "k", "a"}, {2, 1, "k", ""}},
			[]agreed{{1, "k", []int{0, 1, 2}, true}, {1, "k", []int{0, 1, 2}, true}, {1, "k", []int{0, 1, 2}, true}}, []int{1, 1, 1}},
	} {
		for _, votes := range orders(x.votes) {
			y := with(t, 5, votes...)
			for k := 1; k <= 7; k++ {
				want, rank := agreed{}, -1
				if k <= len(x.agreed) {
					want = x.agreed[k-1]
				}
				if k <= len(x.reached) {
					rank = x.reached[k-1]
				}
				agrees(t, y, k, want)
				reaches(t, y, k, rank)
			}
			// k counts as 1, if it is below.
			for _, k := range []int{0, -1, -2, -64, math.MinInt + 1, math.MinInt} {
				want, rank := agreed{}, -1
				if len(x.agreed) > 0 {
					want, rank = x.agreed[0], x.reached[0]
				}
				agrees(t, y, k, want)
				reaches(t, y, k, rank)
			}
			for _, k := range []int{64, 65, 1 << 32, 1<<32 + 1, 1 << 62, math.MaxInt - 1, math.MaxInt} {
				agrees(t, y, k, agreed{})
				reaches(t, y, k, -1)
			}
			if t.Failed() {
				t.Fatal(x.name, votes)
			}
		}
	}
}

// P7.2, P7.3: of 64 voters, each k: half of them say one thing, half another.
func TestAgreeOfMany(t *testing.T) {
	x := New(64)
	var even, odd []int
	for voter := 63; voter >= 0; voter-- {
		if voter%2 == 0 {
			put(t, x, said{voter, 4, "even", ""})
			even = append([]int{voter}, even...)
		} else {
			put(t, x, said{voter, 4, "odd", ""})
			odd = append([]int{voter}, odd...)
		}
	}
	put(t, x, said{0, 5, "odd", ""})
	for k := 2; k <= 66; k++ {
		want := agreed{}
		if k <= 31 {
			want = agreed{4, "even", even[1:], true}
		} else if k <= 32 {
			want = agreed{4, "odd", odd, true}
		}
		agrees(t, x, k, want)
		if k <= 64 {
			reaches(t, x, k, 4)
		} else {
			reaches(t, x, k, -1)
		}
	}
	agrees(t, x, 1, agreed{5, "odd", []int{0}, true})
	reaches(t, x, 1, 5)
}

// P7.3: Have tells those with just this rank and key, rising, in whatever order the votes came.
func TestHave(t *testing.T) {
	votes := []said{{4, 0, "", ""}, {3, 1, "a", ""}, {1, 1, "a", "l"}, {0, 1, "ab", ""}, {5, 2, "a", ""}}
	for _, order := range orders(votes) {
		x := with(t, 7, order...)
		have(t, x, 1, "a", 1, 3)
		have(t, x, 1, "ab", 0)
		have(t, x, 2, "a", 5)
		// Voters 2 and 6 have no vote: neither rank 0 and no key, nor any other.
		have(t, x, 0, "", 4)
		for _, none := range []said{{0, 1, "", ""}, {0, 1, "b", ""}, {0, 1, "A", ""}, {0, 1, "abc", ""}, {0, 1, "a\x00", ""}, {0, 0, "a", ""}, {0, 2, "", ""}, {0, 2, "ab", ""}, {0, 3, "a", ""}, {0, -1, "", ""}, {0, -1, "a", ""}, {0, math.MinInt, "", ""}, {0, math.MaxInt, "a", ""}, {0, 1<<32 + 1, "a", ""}} {
			have(t, x, none.rank, none.key)
		}
		if got := x.Have(0, nil); !slices.Equal(got, []int{4}) {
			t.Errorf("no key: %v", got)
		}
	}
}

// P7.3: Load and Rank are of the voter's vote; of no vote, and of no voter, there is nothing.
func TestLoadAndRank(t *testing.T) {
	x := with(t, 5, said{0, 0, "", ""}, said{1, 3, "k", "one"}, said{4, math.MaxInt, "", "four"})
	stands(t, x, said{0, 0, "", ""})
	stands(t, x, said{1, 3, "k", "one"})
	stands(t, x, said{4, math.MaxInt, "", "four"})
	for _, voter := range append([]int{2, 3, 5, 6, 63, 64}, far...) {
		silent(t, x, voter)
	}
	put(t, x, said{1, 4, "k", "two"})
	stands(t, x, said{1, 4, "k", "two"})
	put(t, x, said{1, 5, "k", ""})
	stands(t, x, said{1, 5, "k", ""})
}

// P7.1 to P7.3: the chapter's examples.
func TestExamples(t *testing.T) {
	x := with(t, 3, said{0, 1, "a", ""}, said{1, 2, "b", ""}, said{2, 1, "a", ""})
	agrees(t, x, 2, agreed{1, "a", []int{0, 2}, true})
	reaches(t, x, 2, 1)
	reaches(t, x, 1, 2)
	if x.Put(0, 0, []byte("c"), nil) {
		t.Error("a vote 0 \"c\" of voter 0")
	}
}
