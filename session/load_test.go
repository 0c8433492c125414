package session

import (
	"testing"

	"stanchion/api"
)

// books: some, and what they hold.
func books(t *testing.T) []*Book {
	t.Helper()
	return []*Book{New(), with(t, of(2, 7, 70), of(5, 8, 80)), with(t, crowd()...)}
}

// takes: a book has these sessions alone, whatever it had.
func takes(t *testing.T, list ...api.Session) {
	t.Helper()
	for _, b := range books(t) {
		if !b.Load(list) {
			t.Errorf("not loaded: %v", list)
			continue
		}
		holds(t, b, list...)
		again := New()
		if !again.Load(b.All()) {
			t.Errorf("not loaded again: %v", b.All())
		}
		holds(t, again, list...)
	}
}

// refuses: a book has what it had.
func refuses(t *testing.T, list ...api.Session) {
	t.Helper()
	for _, b := range books(t) {
		was := b.All()
		if b.Load(list) {
			t.Errorf("loaded: %v", list)
		}
		holds(t, b, was...)
	}
}

// P12.3: all sessions come by rising clients, whatever order they were opened in.
func TestAll(t *testing.T) {
	whole := crowd()
	for _, turn := range []int{1, 3, 5, 7} {
		b := New()
		for i := range whole {
			opens(t, b, api.OK, whole[i*turn%len(whole)])
		}
		holds(t, b, whole...)
		closes(t, b, []int{4, 1}, 1, 4)
		opens(t, b, api.OK, whole[4], whole[1])
		holds(t, b, whole...)
	}
}

// P12.3: lists that are such as All answers.
func TestLoad(t *testing.T) {
	takes(t)
	takes(t, of(0, 1, 0))
	takes(t, of(7, longest, latest))
	takes(t, of(0, longest, latest), of(7, 1, 0))
	takes(t, of(2, 10, 9), of(3, 9, 8), of(6, 8, 7))
	takes(t, of(2, 1, 1), of(3, 1, 1), of(6, 1, 1))
	takes(t, crowd()...)
	for i := range 8 {
		takes(t, crowd()[i:]...)
		takes(t, crowd()[:i]...)
		takes(t, append(crowd()[:i], crowd()[i+1:]...)...)
	}
}

// P12.3: what is loaded goes on as what was opened does.
func TestLoadGoesOn(t *testing.T) {
	b := with(t, of(1, 1, 1), of(4, 1, 1))
	if !b.Load([]api.Session{of(1, 10, 5), of(3, 20, 6)}) {
		t.Fatal("Load")
	}
	opens(t, b, api.ErrThere, of(1, 1, 1), of(3, 1, 1))
	touches(t, b, api.ErrSession, 4, 5)
	touches(t, b, api.OK, 1, 4)
	touches(t, b, api.OK, 3, 7)
	holds(t, b, of(1, 10, 5), of(3, 20, 7))
	opens(t, b, api.OK, of(4, 2, 25))
	expires(t, b, 14)
	expires(t, b, 15, 1)
	expires(t, b, 27, 3, 4)
}

// P12.3: clients rise, each but the first: none stands twice, and none behind a greater one.
func TestLoadOrder(t *testing.T) {
	whole := crowd()
	for i, s := range whole {
		refuses(t, s, s)
		refuses(t, s, of(s.Client, s.Span+1, s.Seen+1))
		for _, v := range whole[i+1:] {
			takes(t, s, v)
			refuses(t, v, s)
			refuses(t, s, v, v)
			refuses(t, s, s, v)
			refuses(t, s, v, s)
			refuses(t, v, s, v)
		}
	}
	for i := range len(whole) - 1 {
		whole[i], whole[i+1] = whole[i+1], whole[i]
		refuses(t, whole...)
		whole[i], whole[i+1] = whole[i+1], whole[i]
	}
	refuses(t, of(0, 1, 0), of(2, 1, 0), of(1, 1, 0))
	refuses(t, of(1, 1, 0), of(0, 1, 0), of(2, 1, 0))
	refuses(t, append(whole, whole[7])...)
	refuses(t, append(whole, whole[0])...)
	refuses(t, append(whole, of(8, 1, 0))...)
	refuses(t, append([]api.Session{of(-1, 1, 0)}, whole...)...)
}

// P12.3: each is right, wherever it stands.
func TestLoadRight(t *testing.T) {
	bad := func(s api.Session) {
		t.Helper()
		refuses(t, s)
		refuses(t, of(0, 1, 0), s)
		refuses(t, s, of(7, 1, 0))
		refuses(t, of(0, 1, 0), s, of(7, 1, 0))
	}
	bad(api.Session{})
	for _, n := range far {
		if n < 0 || n > 7 {
			bad(of(n, 1, 0))
		}
		if n < 1 || n > longest {
			bad(of(3, n, 5))
		}
		if n < 0 || n > latest {
			bad(of(3, 5, n))
		}
	}
	for i, s := range crowd() {
		for _, wrong := range []api.Session{of(s.Client, 0, s.Seen), of(s.Client, longest+1, s.Seen), of(s.Client, s.Span, -1), of(s.Client, s.Span, latest+1)} {
			list := crowd()
			list[i] = wrong
			refuses(t, list...)
		}
	}
}

// P1: a list may be long.
func TestLoadMany(t *testing.T) {
	list := make([]api.Session, 1<<20)
	for i := range list {
		list[i] = of(i, 1, 0)
	}
	refuses(t, list...)
	for i := range list {
		list[i] = of(min(i, 7), 1, 0)
	}
	refuses(t, list...)
	takes(t, list[:8]...)
}
