package tree

import (
	"fmt"
	"math"
	"math/rand"
	"regexp"
	"slices"
	"strings"
	"testing"

	"stanchion/api"
)

// model is a tree by the chapter's words: its nodes in no order.
type model []api.Leaf

var form = regexp.MustCompile(`\A(/|(/[0-9_a-z-]{1,16})+)\z`)

// isPath: is it one?
func isPath(p string) bool { return len(p) <= 64 && form.MatchString(p) }

// above: its parent's path, of one that has a parent.
func above(p string) string {
	last := strings.LastIndexByte(p, '/')
	return p[:max(last, 1)]
}

// at: where the node of a path stands; -1, if it isn't there.
func (m model) at(p string) int {
	return slices.IndexFunc(m, func(l api.Leaf) bool { return l.Path == p })
}

// make: what Make tells.
func (m *model) make(n node) (string, api.Errno) {
	if !isPath(n.p) || n.p == "/" {
		return "", 90
	}
	if len(n.data) > 128 {
		return "", 104
	}
	parent := m.at(above(n.p))
	if parent < 0 {
		return "", 100
	}
	if (*m)[parent].Owner != -1 {
		return "", 105
	}
	p := n.p
	if n.numbered {
		next := (*m)[parent].Next
		p = fmt.Sprintf("%s%05d", p, next)
		if next > 99999 || !isPath(p) {
			return "", 90
		}
	}
	if m.at(p) >= 0 {
		return "", 101
	}
	if len(*m) == 32 {
		return "", 104
	}
	leaf := api.Leaf{Path: p, Data: n.data, Owner: n.owner, Born: n.born}
	if leaf.Owner < -1 {
		leaf.Owner = -1
	}
	if leaf.Born < 0 {
		leaf.Born = 0
	}
	if n.numbered {
		(*m)[parent].Next++
	}
	*m = append(*m, leaf)
	return p, 0
}

// drop: what Drop tells.
func (m *model) drop(p string, version int) api.Errno {
	if !isPath(p) || p == "/" {
		return 90
	}
	at := m.at(p)
	if at < 0 {
		return 100
	}
	if version >= 0 && version != (*m)[at].Version {
		return 102
	}
	if len(m.kids(p)) > 0 {
		return 103
	}
	*m = slices.Delete(*m, at, at+1)
	return 0
}

// set: what Set tells.
func (m model) set(p string, data []byte, version int) (int, api.Errno) {
	if !isPath(p) {
		return 0, 90
	}
	at := m.at(p)
	if at < 0 {
		return 0, 100
	}
	if version >= 0 && version != m[at].Version {
		return 0, 102
	}
	if len(data) > 128 {
		return 0, 104
	}
	m[at].Data = data
	m[at].Version++
	return m[at].Version, 0
}

// kids: a node's children, in no order.
func (m model) kids(p string) []string {
	var list []string
	for _, l := range m {
		if l.Path != "/" && above(l.Path) == p {
			list = append(list, l.Path)
		}
	}
	return list
}

// takes: what Load tells.
func (m *model) takes(list []api.Leaf) bool {
	if len(list) == 0 || len(list) > 32 || list[0].Path != "/" || list[0].Owner != -1 || list[0].Born != 0 {
		return false
	}
	whole := model(list)
	for i, l := range list {
		if !isPath(l.Path) || i > 0 && strings.Compare(list[i-1].Path, l.Path) >= 0 || l.Owner < -1 || l.Version < 0 || l.Next < 0 || l.Born < 0 || len(l.Data) > 128 {
			return false
		}
		if parent := whole.at(above(l.Path)); parent < 0 || i > 0 && list[parent].Owner != -1 {
			return false
		}
	}
	*m = slices.Clone(list)
	return true
}

// held: what held tells of a tree that is so.
func (m model) held() string {
	all := slices.Clone(m)
	slices.SortFunc(all, func(a, b api.Leaf) int { return strings.Compare(a.Path, b.Path) })
	s := []string{listed(all)}
	for _, l := range all {
		kids := m.kids(l.Path)
		slices.Sort(kids)
		s = append(s, fmt.Sprintf("%s 0, kids %q 0", words(l), kids))
	}
	for _, owner := range owners {
		var list []string
		for _, l := range all {
			if l.Owner == owner {
				list = append([]string{l.Path}, list...)
			}
		}
		s = append(s, fmt.Sprintf("of %d %q", owner, list))
	}
	return strings.Join(s, "\n")
}

// pick: one of these.
func pick[T any](r *rand.Rand, list ...T) T { return list[r.Intn(len(list))] }

// somePath: mostly one of a few paths that stand below one another; now and then one of the tree's, or none.
func somePath(r *rand.Rand, m model) string {
	switch r.Intn(20) {
	case 0:
		return pick(r, noPaths...)
	case 1:
		return pick(r, "/", wide, full, full[:8], full[:16])
	case 2, 3, 4, 5:
		return m[r.Intn(len(m))].Path
	case 6:
		return strings.Replace(m[r.Intn(len(m))].Path+"/k", "//", "/", 1)
	}
	p := ""
	for range 1 + r.Intn(3) {
		p += "/" + pick(r, "a", "b", "a-", "c0", "_", "t-")
	}
	return p
}

// someVersion: mostly the node's, or any.
func someVersion(r *rand.Rand, m model, p string) int {
	if at := m.at(p); at >= 0 && r.Intn(2) == 0 {
		return m[at].Version + r.Intn(8)/7
	}
	return pick(r, -1, -1, -1, 0, 1, 2, math.MinInt, math.MaxInt)
}

// someList: mostly what a tree has, with a change or two.
func someList(r *rand.Rand, m model) []api.Leaf {
	list := slices.Clone(m)
	slices.SortFunc(list, func(a, b api.Leaf) int { return strings.Compare(a.Path, b.Path) })
	for range r.Intn(3) {
		i := r.Intn(len(list))
		switch r.Intn(8) {
		case 0:
			list[i].Path = somePath(r, m)
		case 1:
			list[i].Version = pick(r, far...)
		case 2:
			list[i].Owner = pick(r, owners...)
		case 3:
			list[i].Next = pick(r, 0, 5, 99998, 99999, 100000, -1)
		case 4:
			list[i].Born = pick(r, far...)
		case 5:
			list[i].Data = pick(r, much, more)
		case 6:
			if len(list) > 1 {
				list = slices.Delete(list, i, i+1)
			}
		case 7:
			list = slices.Insert(list, i, api.Leaf{Path: somePath(r, m), Owner: -1})
		}
	}
	return list
}

// P10.1 to P10.4, P1: calls of all kinds, one after the other, come to what the words tell, and so does the tree behind each.
func TestModel(t *testing.T) {
	counts := map[api.Errno]int{}
	full, loads, refused := 0, 0, 0
	for seed := range 40 {
		r := rand.New(rand.NewSource(int64(seed)))
		x, m := New(), model{{Path: "/", Owner: -1}}
		for range 400 {
			p := somePath(r, m)
			data := pick(r, nil, []byte("d"), []byte("other"), much, more)
			var got, want string
			var e api.Errno
			switch r.Intn(12) {
			case 0, 1:
				version := someVersion(r, m, p)
				e = m.drop(p, version)
				got, want = fmt.Sprint("Drop ", x.Drop(p, version)), fmt.Sprint("Drop ", e)
			case 2, 3, 4:
				version := someVersion(r, m, p)
				n, f := x.Set(p, data, version)
				k, g := m.set(p, data, version)
				e = g
				got, want = fmt.Sprint("Set ", n, f), fmt.Sprint("Set ", k, g)
			case 5:
				list := someList(r, m)
				ok := m.takes(list)
				if ok {
					loads++
				} else {
					refused++
				}
				got, want = fmt.Sprint("Load ", x.Load(list)), fmt.Sprint("Load ", ok)
			default:
				owner := pick(r, -1, -1, -1, -1, 0, 1, 7, -3, math.MaxInt)
				n := node{p, data, owner, pick(r, far...), r.Intn(3) == 0}
				q, f := x.Make(n.p, n.data, n.owner, n.born, n.numbered)
				k, g := m.make(n)
				e = g
				got, want = fmt.Sprint("Make ", q, f), fmt.Sprint("Make ", k, g)
			}
			counts[e]++
			if len(m) == 32 {
				full++
			}
			if got != want {
				t.Fatalf("seed %d, %.80q: %s, not %s", seed, p, got, want)
			}
			if got, want := held(x), m.held(); got != want {
				t.Fatalf("seed %d, %s: the tree is\n%s\nnot\n%s", seed, want, got, want)
			}
		}
	}
	for _, e := range []api.Errno{0, 90, 100, 101, 102, 103, 104, 105} {
		if counts[e] < 100 {
			t.Errorf("error %d is met %d times", e, counts[e])
		}
	}
	if full < 100 || loads < 100 || refused < 100 {
		t.Errorf("%d times full, %d lists loaded, %d refused", full, loads, refused)
	}
}

// P2: the same calls on two trees come to the same.
func TestAlike(t *testing.T) {
	var were []string
	for range 3 {
		r := rand.New(rand.NewSource(10))
		x, m := New(), model{{Path: "/", Owner: -1}}
		var answers []string
		for range 500 {
			p := somePath(r, m)
			q, e := x.Make(p, nil, r.Intn(4)-2, 0, r.Intn(2) == 0)
			n, f := x.Set(p, []byte(q), r.Intn(4)-1)
			g := x.Drop(somePath(r, m), r.Intn(4)-1)
			answers = append(answers, fmt.Sprint(q, e, n, f, g), held(x))
			m = x.All()
		}
		if were == nil {
			were = answers
		}
		if !slices.Equal(answers, were) {
			t.Error("not alike")
		}
	}
}
