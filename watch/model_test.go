package watch

import (
	"cmp"
	"fmt"
	"math"
	"math/rand"
	"regexp"
	"slices"
	"testing"

	"stanchion/api"
)

// model is watches by the chapter's words, in no order.
type model map[api.Watch]bool

var form = regexp.MustCompile(`\A(/|(/[0-9_a-z-]{1,16})+)\z`)

// isRight: is the watch right?
func isRight(w api.Watch) bool {
	return w.Client >= 0 && w.Client < 8 && (w.Kind == 1 || w.Kind == 2) && len(w.Path) <= 64 && form.MatchString(w.Path)
}

// greater: is a behind b in the order?
func greater(a, b api.Watch) bool {
	if a.Path != b.Path {
		return string(a.Path) > string(b.Path)
	}
	if a.Kind != b.Kind {
		return a.Kind > b.Kind
	}
	return a.Client > b.Client
}

// of: how many a client has.
func (m model) of(client int) int {
	n := 0
	for w := range m {
		if w.Client == client {
			n++
		}
	}
	return n
}

// add: what Add tells.
func (m model) add(w api.Watch) api.Errno {
	switch {
	case !isRight(w):
		return 90
	case m[w]:
		return 0
	case m.of(w.Client) == 8:
		return 104
	}
	m[w] = true
	return 0
}

// all: what All tells.
func (m model) all() []api.Watch {
	var list []api.Watch
	for w := range m {
		list = append(list, w)
	}
	slices.SortFunc(list, func(a, b api.Watch) int {
		if greater(a, b) {
			return 1
		}
		return -1
	})
	return list
}

// without: those that are taken away, in their order.
func (m model) without(taken func(api.Watch) bool) []api.Watch {
	var list []api.Watch
	for _, w := range m.all() {
		if taken(w) {
			list = append(list, w)
			delete(m, w)
		}
	}
	return list
}

// loads: what Load tells, and what the table is then.
func (m model) loads(list []api.Watch) (bool, model) {
	other := model{}
	for i, w := range list {
		if !isRight(w) || i > 0 && !greater(w, list[i-1]) {
			return false, m
		}
		other[w] = true
	}
	for client := range 8 {
		if other.of(client) > 8 {
			return false, m
		}
	}
	return true, other
}

// pick: one of these.
func pick[T any](r *rand.Rand, list ...T) T { return list[r.Intn(len(list))] }

// somePath: mostly one of a few; now and then none.
func somePath(r *rand.Rand) string {
	if r.Intn(30) == 0 {
		return pick(r, noPaths...)
	}
	return pick(r, "/", "/a", "/a-", "/a/b", "/a0", "/b", "/b/c", wide, full)
}

// someWatch: mostly a right one.
func someWatch(r *rand.Rand) api.Watch {
	w := api.Watch{Client: pick(r, 0, 1, 1, 1, 2, 7), Kind: 1 + r.Intn(2), Path: somePath(r)}
	switch r.Intn(40) {
	case 0:
		w.Client = pick(r, far...)
	case 1:
		w.Kind = pick(r, far...)
	}
	return w
}

// someList: mostly what a table has, with a change or two.
func someList(r *rand.Rand, m model) []api.Watch {
	list := m.all()
	for range r.Intn(4) {
		if len(list) > 0 && r.Intn(2) == 0 {
			list = slices.Delete(list, 0, 1+r.Intn(len(list)))
		}
		at := 0
		w := someWatch(r)
		for at < len(list) && cmp.Compare(list[at].Path, w.Path) < 0 {
			at++
		}
		list = slices.Insert(list, at, w)
	}
	return list
}

// P11.1, P11.2, P1: calls of all kinds, one after the other, come to what the words tell, and so does the table behind each.
func TestModel(t *testing.T) {
	counts := map[string]int{}
	for seed := range 40 {
		r := rand.New(rand.NewSource(int64(seed)))
		x, m := New(), model{}
		for range 400 {
			var got, want string
			switch r.Intn(16) {
			case 0:
				list := someList(r, m)
				ok, then := m.loads(list)
				m = then
				got, want = fmt.Sprint("Load ", x.Load(list)), fmt.Sprint("Load ", ok)
				counts[want]++
			case 1:
				clients := []int{r.Intn(8), pick(r, far...), r.Intn(8)}[:r.Intn(4)]
				x.Drop(clients...)
				if len(m.without(func(w api.Watch) bool { return slices.Contains(clients, w.Client) })) > 0 {
					counts["Drop"]++
				}
			case 2, 3:
				kind := pick(r, 1, 1, 2, 2, 0, 3, math.MaxInt)
				paths := []string{somePath(r), somePath(r), somePath(r)}[:r.Intn(4)]
				list := m.without(func(w api.Watch) bool { return w.Kind == kind && slices.Contains(paths, w.Path) })
				got, want = "Fire "+listed(x.Fire(kind, paths...)), "Fire "+listed(list)
				counts[fmt.Sprint("Fire ", min(len(list), 2))]++
			default:
				w := someWatch(r)
				got, want = fmt.Sprint("Add ", int(x.Add(w))), fmt.Sprint("Add ", int(m.add(w)))
				counts[want]++
				if Right(w) != isRight(w) {
					t.Errorf("Right(%s)", listed([]api.Watch{w}))
				}
			}
			if got != want {
				t.Fatalf("seed %d: %s, not %s", seed, got, want)
			}
			holds(t, x, m.all()...)
			if t.Failed() {
				t.Fatalf("seed %d, behind %s", seed, want)
			}
		}
	}
	for _, what := range []string{"Add 0", "Add 90", "Add 104", "Fire 0", "Fire 1", "Fire 2", "Drop", "Load true", "Load false"} {
		if counts[what] < 100 {
			t.Errorf("%s: %d times", what, counts[what])
		}
	}
}

// P2: the same calls on several tables come to the same; asking changes nothing.
func TestAlike(t *testing.T) {
	var were []string
	for i := range 3 {
		r := rand.New(rand.NewSource(11))
		x := New()
		var answers []string
		for range 500 {
			w := someWatch(r)
			answers = append(answers, fmt.Sprint(x.Add(w), listed(x.Fire(1+r.Intn(2), somePath(r)))), listed(x.All()))
			for range i {
				x.All()
				Right(w)
				x.Load([]api.Watch{w, w})
			}
		}
		if were == nil {
			were = answers
		}
		if !slices.Equal(answers, were) {
			t.Error("not alike")
		}
	}
}
