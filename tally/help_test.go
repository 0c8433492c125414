package tally

import (
	"math"
	"reflect"
	"slices"
	"testing"

	"stanchion/api"
)

// far: numbers that are no voter's, such as come to small ones in fewer bits or without their sign among them.
var far = []int{math.MinInt, math.MinInt + 1, math.MinInt + 64, -1 << 32, -256, -65, -64, -2, -1, 256, 257, 1 << 16, 1 << 32, 1<<32 + 1, api.MaxWide, api.MaxNum, math.MaxInt - 1, math.MaxInt}

// said is a vote to be put.
type said struct {
	voter, rank int
	key, load   string
}

// put: the tally takes all these votes.
func put(t *testing.T, x *Tally, votes ...said) {
	t.Helper()
	for _, v := range votes {
		if !x.Put(v.voter, v.rank, []byte(v.key), []byte(v.load)) {
			t.Fatalf("%v isn't taken", v)
		}
	}
}

// with: a tally of n voters with these votes.
func with(t *testing.T, n int, votes ...said) *Tally {
	t.Helper()
	x := New(n)
	put(t, x, votes...)
	return x
}

// agreed is an answer of Agree.
type agreed struct {
	rank   int
	key    string
	voters []int
	ok     bool
}

// agrees: Agree(k) answers this.
func agrees(t *testing.T, x *Tally, k int, want agreed) {
	t.Helper()
	rank, key, voters, ok := x.Agree(k)
	if rank != want.rank || string(key) != want.key || !slices.Equal(voters, want.voters) || ok != want.ok {
		t.Errorf("Agree(%d): %d, %q, %v, %v, not %v", k, rank, key, voters, ok, want)
	}
}

// have: Have answers this.
func have(t *testing.T, x *Tally, rank int, key string, want ...int) {
	t.Helper()
	if got := x.Have(rank, []byte(key)); !slices.Equal(got, want) {
		t.Errorf("Have(%d, %q): %v, not %v", rank, key, got, want)
	}
}

// stands: this is the voter's vote.
func stands(t *testing.T, x *Tally, v said) {
	t.Helper()
	rank, ok := x.Rank(v.voter)
	if load := x.Load(v.voter); rank != v.rank || !ok || string(load) != v.load {
		t.Errorf("of voter %d: %d, %v, %q, not %v", v.voter, rank, ok, load, v)
	}
	if !slices.Contains(x.Have(v.rank, []byte(v.key)), v.voter) {
		t.Errorf("voter %d hasn't %d, %q", v.voter, v.rank, v.key)
	}
}

// silent: the voter has no vote.
func silent(t *testing.T, x *Tally, voter int) {
	t.Helper()
	rank, ok := x.Rank(voter)
	if load := x.Load(voter); rank != 0 || ok || len(load) != 0 {
		t.Errorf("of voter %d: %d, %v, %q", voter, rank, ok, load)
	}
}

// reaches: Reach(k) answers this rank, or that there is none, by -1.
func reaches(t *testing.T, x *Tally, k, want int) {
	t.Helper()
	rank, ok := x.Reach(k)
	if ok != (want >= 0) || rank != max(want, 0) {
		t.Errorf("Reach(%d): %d, %v, not %d", k, rank, ok, want)
	}
}

// all: what all calls answer of small numbers, of far ones, and of these ranks and keys.
func all(x *Tally, ranks []int, keys []string) []any {
	var list []any
	for _, k := range slices.Concat([]int{0, 1, 2, 3, 4, 5, 63, 64, 65}, far) {
		rank, key, voters, ok := x.Agree(k)
		reached, some := x.Reach(k)
		list = append(list, rank, string(key), append([]int{}, voters...), ok, reached, some)
	}
	for n := range 70 {
		rank, ok := x.Rank(n)
		list = append(list, rank, ok, string(x.Load(n)))
	}
	for _, rank := range ranks {
		for _, key := range keys {
			list = append(list, append([]int{}, x.Have(rank, []byte(key))...))
		}
	}
	return list
}

// same: two tallies, or one at two times, answer the same.
func same(t *testing.T, name string, got, want []any) {
	t.Helper()
	if !reflect.DeepEqual(got, want) {
		t.Errorf("%s: %v, not %v", name, got, want)
	}
}

// empty: no call answers anything.
func empty(t *testing.T, x *Tally) {
	t.Helper()
	for _, n := range slices.Concat([]int{0, 1, 2, 3, 63, 64, 65}, far) {
		agrees(t, x, n, agreed{})
		reaches(t, x, n, -1)
		silent(t, x, n)
		have(t, x, n, "")
		have(t, x, n, "a")
	}
}
