package conf

import (
	"math"

	"stanchion/api"
)

// right: a configuration that can be, of these budgets.
func right(u, r int) api.Conf {
	return api.Conf{U: u, R: r, Peers: 2, Window: 4, Every: 2, Patience: 3, Secret: []byte("secret")}
}

// far: numbers that are no count of anything, such as come to small ones in fewer bits or without their sign among them.
var far = []int{math.MinInt, math.MinInt + 1, math.MinInt + 2, -1 << 32, -256, 1280, 1281, 1282, 1 << 16, 1<<16 + 1, 1 << 32, 1<<32 + 1, 1<<32 + 2, api.MaxWide, api.MaxNum, api.MaxNum + 1, math.MaxInt - 1, math.MaxInt}

// roles are those that there are; noRoles aren't.
var (
	roles   = []int{api.Keeper, api.Orderer, api.Doer, api.Peer}
	noRoles = append([]int{-4, -3, -2, -1, 0, 5, 6, 1<<32 + api.Peer}, far...)
)

// counts: of all budgets that can be, how many Keepers, Orderers, Doers, a quorum and a proof there are, written out.
var counts = []struct {
	u, r, keepers, orderers, doers, quorum, proof int
}{
	{0, 0, 1, 1, 1, 1, 1},
	{1, 0, 3, 3, 2, 2, 1},
	{1, 1, 4, 4, 3, 3, 2},
	{2, 0, 5, 5, 3, 3, 1},
	{2, 1, 6, 6, 4, 4, 2},
	{2, 2, 7, 7, 5, 5, 3},
}

// fields: each number of a configuration, by its name.
var fields = map[string]func(c *api.Conf) *int{
	"U":        func(c *api.Conf) *int { return &c.U },
	"R":        func(c *api.Conf) *int { return &c.R },
	"Peers":    func(c *api.Conf) *int { return &c.Peers },
	"Window":   func(c *api.Conf) *int { return &c.Window },
	"Every":    func(c *api.Conf) *int { return &c.Every },
	"Patience": func(c *api.Conf) *int { return &c.Patience },
}
