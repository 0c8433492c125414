package tally

import (
	"math"
	"math/rand"
	"slices"
	"testing"
)

// model is a tally, as the chapter's words go: of each voter its vote, or nil.
type model []*said

func (m model) put(v said) bool {
	if v.voter < 0 || v.voter >= len(m) || v.rank < 0 || m[v.voter] != nil && m[v.voter].rank >= v.rank {
		return false
	}
	m[v.voter] = &v
	return true
}

func (m model) have(rank int, key string) []int {
	var voters []int
	for voter, v := range m {
		if v != nil && v.rank == rank && v.key == key {
			voters = append(voters, voter)
		}
	}
	return voters
}

// agree: each vote's rank and key is held against the best so far.
func (m model) agree(k int) agreed {
	best := agreed{}
	for _, v := range m {
		if v == nil || len(m.have(v.rank, v.key)) < max(k, 1) {
			continue
		}
		if !best.ok || v.rank > best.rank || v.rank == best.rank && v.key < best.key {
			best = agreed{v.rank, v.key, m.have(v.rank, v.key), true}
		}
	}
	return best
}

// reach: each vote's rank is tried: how many have it, or a greater one? -1: none does.
func (m model) reach(k int) int {
	best := -1
	for _, v := range m {
		if v == nil {
			continue
		}
		n := 0
		for _, w := range m {
			if w != nil && w.rank >= v.rank {
				n++
			}
		}
		if n >= max(k, 1) {
			best = max(best, v.rank)
		}
	}
	return best
}

// anyVote: a vote of few ranks and keys, so that some agree; hardly ever one of no voter, or of a rank far off.
func anyVote(r *rand.Rand, voters int) said {
	keys := []string{"", "a", "b", "ab", "\x00", "\xff", "\x7f"}
	v := said{r.Intn(voters + 1), r.Intn(4), keys[r.Intn(1+r.Intn(len(keys)))], keys[r.Intn(len(keys))]}
	switch r.Intn(40) {
	case 0:
		v.voter = r.Intn(200) - 100
	case 1:
		v.rank = -1 - r.Intn(3)
	case 2:
		v.rank = math.MaxInt - r.Intn(2)
	case 3:
		v.rank = r.Intn(4) << 32
	}
	return v
}

// alike: the tally answers all that the model does.
func alike(t *testing.T, x *Tally, m model, last said) {
	t.Helper()
	for k := -1; k <= len(m)+1; k++ {
		agrees(t, x, k, m.agree(k))
		reaches(t, x, k, m.reach(k))
	}
	have(t, x, last.rank, last.key, m.have(last.rank, last.key)...)
	for voter := -1; voter <= len(m); voter++ {
		if voter >= 0 && voter < len(m) && m[voter] != nil {
			stands(t, x, *m[voter])
		} else {
			silent(t, x, voter)
		}
	}
}

// P7.1 to P7.3, P2: at all calls in all orders the tally is as the model is.
func TestModel(t *testing.T) {
	for seed := range int64(2000) {
		r := rand.New(rand.NewSource(seed))
		n := 1 + r.Intn(8)
		if seed%100 == 0 {
			n = 64
		}
		x, m := New(n), make(model, n)
		for range 20 + n {
			v := anyVote(r, n)
			if got, want := x.Put(v.voter, v.rank, []byte(v.key), []byte(v.load)), m.put(v); got != want {
				t.Errorf("Put %v: %v, not %v", v, got, want)
			}
			alike(t, x, m, v)
			if t.Failed() {
				t.Fatal("seed ", seed)
			}
		}
	}
}

// P2: what is answered hangs on the votes alone, not on the order in which different voters' came, nor on those that were refused or that another followed.
func TestOrderOfVotes(t *testing.T) {
	for seed := range int64(300) {
		r := rand.New(rand.NewSource(seed))
		x, m := New(7), make(model, 7)
		for range 30 {
			v := anyVote(r, 7)
			x.Put(v.voter, v.rank, []byte(v.key), []byte(v.load))
			m.put(v)
		}
		var left []said
		for _, v := range m {
			if v != nil {
				left = append(left, *v)
			}
		}
		r.Shuffle(len(left), func(i, j int) { left[i], left[j] = left[j], left[i] })
		y := with(t, 7, left...)
		ranks, keys := []int{0, 1, 2, 3, math.MaxInt}, []string{"", "a", "b", "ab"}
		same(t, "in another order", all(y, ranks, keys), all(x, ranks, keys))
		slices.Reverse(left)
		same(t, "the other way round", all(with(t, 7, left...), ranks, keys), all(x, ranks, keys))
		if t.Failed() {
			t.Fatal("seed ", seed)
		}
	}
}
