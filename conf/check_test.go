package conf

import (
	"slices"
	"testing"

	"stanchion/api"
)

// expect: Check's answer is OK where the configuration can be, else ErrConf.
func expect(t *testing.T, c api.Conf, can bool) {
	t.Helper()
	want := api.ErrConf
	if can {
		want = api.OK
	}
	if e := Check(c); e != want {
		t.Errorf("U %d, R %d, Peers %d, Window %d, Every %d, Patience %d, %d bytes: %d, not %d", c.U, c.R, c.Peers, c.Window, c.Every, c.Patience, len(c.Secret), e, want)
	}
}

// P6.1: each number's bounds, the others being right.
func TestCheckBounds(t *testing.T) {
	for _, x := range []struct {
		name          string
		base          api.Conf
		first, behind int // the numbers that can be
	}{
		{"U", right(0, 0), 0, 3},
		{"U", right(1, 1), 1, 3},
		{"U", right(2, 2), 2, 3},
		{"R", right(0, 0), 0, 1},
		{"R", right(1, 1), 0, 2},
		{"R", right(2, 1), 0, 3},
		{"Peers", right(1, 0), 1, 9},
		{"Window", right(1, 0), 2, 9},
		{"Every", right(1, 0), 1, 5},
		{"Patience", right(1, 0), 1, 1001},
	} {
		set := func(n int) api.Conf {
			c := x.base
			*fields[x.name](&c) = n
			return c
		}
		for n := -1100; n <= 1100; n++ {
			expect(t, set(n), n >= x.first && n < x.behind)
		}
		for _, n := range far {
			expect(t, set(n), n >= x.first && n < x.behind)
		}
	}
}

// P6.1: R is from 0 to U, and U at most 2.
func TestCheckBudgets(t *testing.T) {
	numbers := append([]int{-3, -2, -1, 0, 1, 2, 3, 4}, far...)
	for _, u := range numbers {
		for _, r := range numbers {
			can := false
			for _, x := range counts {
				can = can || x.u == u && x.r == r
			}
			expect(t, right(u, r), can)
		}
	}
}

// P6.1: Every is from 1 to Window, and Window at most 8.
func TestCheckWindow(t *testing.T) {
	numbers := append([]int{-2, -1, 0, 1, 2, 3, 4, 5, 6, 7, 8, 9, 10}, far...)
	for _, window := range numbers {
		for _, every := range numbers {
			c := right(1, 1)
			c.Window, c.Every = window, every
			expect(t, c, 1 <= every && every <= window && window <= 8)
		}
	}
}

// P6.1: a secret has at most 64 bytes, whatever they are, and whatever room stands behind them.
func TestCheckSecret(t *testing.T) {
	for _, n := range []int{0, 1, 32, 63, 64, 65, 66, 128, 255, 256, 257, 320, 1 << 16, 1<<16 + 1} {
		c := right(2, 1)
		c.Secret = make([]byte, n)
		expect(t, c, n <= 64)
		c.Secret = make([]byte, n, n+100)
		expect(t, c, n <= 64)
	}
	c := right(2, 1)
	c.Secret = nil
	expect(t, c, true)
}

// P6.1: the least and the greatest of all at once can be; with one number far off they can't.
func TestCheckCorners(t *testing.T) {
	for _, c := range []api.Conf{
		{Peers: 1, Window: 1, Every: 1, Patience: 1},
		{U: 2, R: 2, Peers: 8, Window: 8, Every: 8, Patience: 1000, Secret: make([]byte, 64)},
	} {
		expect(t, c, true)
		for _, field := range fields {
			for _, n := range far {
				wrong := c
				*field(&wrong) = n
				expect(t, wrong, false)
			}
		}
	}
	expect(t, api.Conf{}, false)
}

// wrongs: configurations that can't be, by one number just beside its bounds or one of these, or by all.
func wrongs(more ...int) []api.Conf {
	list := []api.Conf{{}, {U: -1, R: -1, Peers: -1, Window: -1, Every: -1, Patience: -1}}
	for name, beside := range map[string][]int{
		"U":        {-1, 0, 3},
		"R":        {-1, 2},
		"Peers":    {-1, 0, 9},
		"Window":   {-1, 0, 1, 9},
		"Every":    {-1, 0, 5},
		"Patience": {-1, 0, 1001},
	} {
		for _, n := range append(beside, more...) {
			c := right(1, 1)
			*fields[name](&c) = n
			list = append(list, c)
		}
	}
	long := right(1, 1)
	long.Secret = make([]byte, 65)
	return append(list, long)
}

// P6.1: of a configuration that isn't right all others answer nothing.
func TestWrongHasNothing(t *testing.T) {
	for _, c := range wrongs(far...) {
		expect(t, c, false)
		if Quorum(c) != 0 || Proof(c) != 0 {
			t.Errorf("%v: a quorum %d, a proof %d", c, Quorum(c), Proof(c))
		}
		for _, role := range slices.Concat(noRoles, roles) {
			if n := Count(c, role); n != 0 {
				t.Errorf("%v: %d of role %d", c, n, role)
			}
			for _, n := range append([]int{-1, 0, 1, 2}, far...) {
				if There(c, api.Id{Role: role, N: n}) {
					t.Errorf("%v: %d of role %d is there", c, n, role)
				}
			}
		}
		for _, view := range append([]int{-1, 0, 1, 2, 3, 5}, far...) {
			if n := Primary(c, view); n != 0 {
				t.Errorf("%v: view %d has the primary %d", c, view, n)
			}
		}
		if t.Failed() {
			// Ids of a count far off would fill the memory.
			t.FailNow()
		}
		if ids := Ids(c, roles...); len(ids) != 0 {
			t.Errorf("%v: %v", c, ids)
		}
	}
}
