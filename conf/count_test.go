package conf

import (
	"slices"
	"testing"

	"stanchion/api"
)

// P6.2: of all budgets, how many nodes each role has, and what a quorum and a proof are.
func TestCounts(t *testing.T) {
	for _, x := range counts {
		for peers := 1; peers <= api.MaxPeers; peers++ {
			c := right(x.u, x.r)
			c.Peers = peers
			for role, want := range map[int]int{api.Keeper: x.keepers, api.Orderer: x.orderers, api.Doer: x.doers, api.Peer: peers} {
				if n := Count(c, role); n != want {
					t.Errorf("U %d, R %d, Peers %d: %d of role %d, not %d", x.u, x.r, peers, n, role, want)
				}
			}
			if Quorum(c) != x.quorum || Proof(c) != x.proof {
				t.Errorf("U %d, R %d: a quorum %d, a proof %d", x.u, x.r, Quorum(c), Proof(c))
			}
		}
	}
}

// P6.2: what is no role has no nodes.
func TestNoRole(t *testing.T) {
	for _, x := range counts {
		c := right(x.u, x.r)
		for _, role := range noRoles {
			if n := Count(c, role); n != 0 {
				t.Errorf("%d of role %d", n, role)
			}
			if ids := Ids(c, role); len(ids) != 0 {
				t.Errorf("role %d: %v", role, ids)
			}
			for n := -1; n < 10; n++ {
				if There(c, api.Id{Role: role, N: n}) {
					t.Errorf("%d of role %d is there", n, role)
				}
			}
		}
	}
}

// P6.2: the view modulo the number of Orderers; 0 for a view below 0.
func TestPrimary(t *testing.T) {
	for _, x := range counts {
		c := right(x.u, x.r)
		want := 0
		for view := range 100 {
			if n := Primary(c, view); n != want {
				t.Errorf("U %d, R %d: view %d has the primary %d, not %d", x.u, x.r, view, n, want)
			}
			if want++; want == x.orderers {
				want = 0
			}
		}
		for view := -20; view < 0; view++ {
			if n := Primary(c, view); n != 0 {
				t.Errorf("U %d, R %d: view %d has the primary %d", x.u, x.r, view, n)
			}
		}
		for _, view := range far {
			want := 0
			if view >= 0 {
				want = int(uint64(view) % uint64(x.orderers))
			}
			if n := Primary(c, view); n != want {
				t.Errorf("U %d, R %d: view %d has the primary %d, not %d", x.u, x.r, view, n, want)
			}
		}
	}
}

// P6.2: of each role, in the order in which they are told, all Ids by rising N.
func TestIds(t *testing.T) {
	k, o, d, p := api.Keeper, api.Orderer, api.Doer, api.Peer
	for _, told := range [][]int{
		nil, {}, {k}, {o}, {d}, {p},
		{k, o, d, p}, {p, d, o, k}, {d, k}, {o, p, k},
		{d, d}, {k, d, k}, {0}, {5, 0, -1}, {0, d, 5, p, -1},
	} {
		for _, x := range counts {
			size := map[int]int{k: x.keepers, o: x.orderers, d: x.doers, p: 2}
			var want []api.Id
			for _, role := range told {
				for n := 0; n < size[role]; n++ {
					want = append(want, api.Id{Role: role, N: n})
				}
			}
			if ids := Ids(right(x.u, x.r), told...); !slices.Equal(ids, want) {
				t.Errorf("U %d, R %d, roles %v: %v", x.u, x.r, told, ids)
			}
		}
	}
	if ids := Ids(right(2, 2), make([]int, 100000)...); len(ids) != 0 {
		t.Errorf("%d Ids of no role", len(ids))
	}
	if ids := Ids(right(2, 2), slices.Repeat([]int{api.Doer}, 10000)...); len(ids) != 50000 || ids[49999] != (api.Id{Role: api.Doer, N: 4}) {
		t.Errorf("%d Ids of Doers", len(ids))
	}
}

// P6.2: just the Ids of nodes are there.
func TestThere(t *testing.T) {
	for _, x := range counts {
		c := right(x.u, x.r)
		c.Peers = 3
		for role, size := range map[int]int{api.Keeper: x.keepers, api.Orderer: x.orderers, api.Doer: x.doers, api.Peer: 3} {
			for n := -20; n < 20; n++ {
				if got := There(c, api.Id{Role: role, N: n}); got != (n >= 0 && n < size) {
					t.Errorf("U %d, R %d: %d of role %d: %v", x.u, x.r, n, role, got)
				}
			}
			for _, n := range far {
				if There(c, api.Id{Role: role, N: n}) {
					t.Errorf("U %d, R %d: %d of role %d is there", x.u, x.r, n, role)
				}
			}
		}
	}
}

// P6.2: the chapter's examples.
func TestExamples(t *testing.T) {
	for _, x := range []struct {
		r    int
		want []int
	}{
		{1, []int{4, 4, 3, 3, 2}},
		{0, []int{3, 3, 2, 2, 1}},
	} {
		c := right(1, x.r)
		if got := []int{Count(c, api.Keeper), Count(c, api.Orderer), Count(c, api.Doer), Quorum(c), Proof(c)}; !slices.Equal(got, x.want) {
			t.Errorf("U 1, R %d: %v", x.r, got)
		}
	}
}
