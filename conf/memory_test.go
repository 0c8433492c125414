package conf

import (
	"bytes"
	"reflect"
	"slices"
	"testing"

	"stanchion/api"
)

// answers: what all calls answer of a configuration.
func answers(c api.Conf, told ...int) []any {
	list := []any{Check(c), Quorum(c), Proof(c), Ids(c, told...)}
	for n := -1; n < 9; n++ {
		list = append(list, Count(c, n), Primary(c, n))
		for _, role := range roles {
			list = append(list, There(c, api.Id{Role: role, N: n}))
		}
	}
	return list
}

// P6.3: what is handed in is as it was, what stands behind its length too.
func TestArgumentsStay(t *testing.T) {
	for _, length := range []int{0, 6, 64, 65} {
		secret := []byte("a secret, and what stands behind its length, of more than a secret's bytes")
		told := []int{api.Doer, 7, api.Peer, api.Doer, api.Keeper, api.Orderer}
		wasSecret, wasTold := bytes.Clone(secret), slices.Clone(told)
		c := right(1, 1)
		c.Secret = secret[:length]
		answers(c, told[:3]...)
		if !bytes.Equal(secret, wasSecret) || !slices.Equal(told, wasTold) {
			t.Errorf("%d bytes: %q, %v", length, secret, told)
		}
	}
}

// P6.3: what was answered doesn't hang on what was handed in, nor on another answer.
func TestAnswersApart(t *testing.T) {
	told := []int{api.Doer, api.Peer}
	c := right(1, 1)
	first, second := Ids(c, told...), Ids(c, told...)
	was := slices.Clone(first)
	told[0], told[1], c.Secret[0] = 9, 9, 9
	if !slices.Equal(first, was) {
		t.Errorf("%v, then %v", was, first)
	}
	all := first[:cap(first)]
	for i := range all {
		all[i] = api.Id{Role: -1, N: -1}
	}
	if third := Ids(c, api.Doer, api.Peer); !slices.Equal(second, was) || !slices.Equal(third, was) {
		t.Errorf("%v, then %v, then %v", was, second, third)
	}
}

// P6.3: nothing stands in an answer's spare room.
func TestSpareRoom(t *testing.T) {
	for n := range 20 {
		ids := Ids(right(2, 2), slices.Repeat([]int{api.Doer}, n)...)
		for _, id := range ids[len(ids):cap(ids)] {
			if id != (api.Id{}) {
				t.Errorf("%d roles: spare %v", n, id)
			}
		}
	}
}

// P6.3, P2: an answer hangs on the arguments alone, not on the calls before.
func TestAlike(t *testing.T) {
	list := append(wrongs(), right(1, 1))
	for _, x := range counts {
		list = append(list, right(x.u, x.r))
	}
	var were [][]any
	for _, c := range list {
		were = append(were, answers(c, roles...))
	}
	for i := len(list) - 1; i >= 0; i-- {
		if got := answers(list[i], roles...); !reflect.DeepEqual(got, were[i]) {
			t.Errorf("%v: %v, then %v", list[i], were[i], got)
		}
	}
}

// P6.3: of what is right, the counts hang on the budgets and Peers alone.
func TestOthersDontCount(t *testing.T) {
	want := answers(right(2, 1), roles...)
	for _, change := range []func(c *api.Conf){
		func(c *api.Conf) { c.Window, c.Every = 8, 8 },
		func(c *api.Conf) { c.Window, c.Every = 1, 1 },
		func(c *api.Conf) { c.Patience = 1 },
		func(c *api.Conf) { c.Patience = 1000 },
		func(c *api.Conf) { c.Secret = nil },
		func(c *api.Conf) { c.Secret = make([]byte, 64) },
	} {
		c := right(2, 1)
		change(&c)
		if got := answers(c, roles...); !reflect.DeepEqual(got, want) {
			t.Errorf("%v: %v", c, got)
		}
	}
}
