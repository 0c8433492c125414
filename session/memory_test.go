package session

import (
	"slices"
	"testing"

	"stanchion/api"
)

// spoil: all that the list's memory holds is another, spare room too.
func spoil[T any](list []T, other T) {
	list = list[:cap(list)]
	for i := range list {
		list[i] = other
	}
}

// P12.4: a list that is loaded is as it was, what stands behind its length too, and isn't kept.
func TestLoadMemory(t *testing.T) {
	for _, wrong := range []bool{false, true} {
		list := []api.Session{of(0, 10, 5), of(2, 9, 6), of(3, 8, 7), of(7, 7, 8), of(99, -1, -1), of(-99, 0, 0)}
		if wrong {
			list[3].Client = 3
		}
		was := slices.Clone(list)
		b := with(t, of(4, 1, 1))
		want := b.All()
		if b.Load(list[:4]) == wrong {
			t.Fatal("Load")
		}
		if !wrong {
			want = slices.Clone(list[:4])
		}
		same(t, "the list", list, was...)
		spoil(list, of(6, 66, 666))
		spoilt := slices.Clone(list)
		holds(t, b, want...)
		opens(t, b, api.OK, of(5, 1, 0))
		expires(t, b, 1, 5)
		for _, s := range want {
			touches(t, b, api.OK, s.Client, 50)
		}
		b.Close(0, 2, 4)
		same(t, "the list", list, spoilt...)
	}
}

// P12.4: clients are as they were, what stands behind their length too, and aren't kept.
func TestClientsMemory(t *testing.T) {
	b := with(t, crowd()...)
	clients := []int{7, 2, -1, 2, 99, 0, 4, 98}
	was := slices.Clone(clients)
	closed := b.Close(clients[:6]...)
	same(t, "the clients", clients, was...)
	spoil(clients, 3)
	same(t, "Close", closed, 0, 2, 7)
	holds(t, b, without(crowd(), 0, 2, 7)...)
	spoil(closed, 5)
	for _, n := range clients {
		if n != 3 {
			t.Errorf("the clients: %v", clients)
		}
	}
}

// P12.4: what is answered is new memory: neither the book nor another answer hangs on it, and it hangs on nothing that comes.
func TestAnswersMemory(t *testing.T) {
	b := with(t, crowd()...)
	all, otherAll := b.All(), b.All()
	_ = append(all, of(6, 66, 666))
	spoil(all, of(5, 55, 555))
	holds(t, b, crowd()...)
	same(t, "All", otherAll, crowd()...)

	expired := b.Expire(16)
	closed := b.Close(5, 3)
	same(t, "Expire", expired, 0, 2, 4, 6)
	same(t, "Close", closed, 3, 5)
	left := b.All()
	opens(t, b, api.OK, of(0, 10, 5), of(3, 10, 5))
	touches(t, b, api.OK, 1, 500)
	b.Expire(300)
	b.Close(1)
	same(t, "Expire", expired, 0, 2, 4, 6)
	same(t, "Close", closed, 3, 5)
	same(t, "All", left, crowd()[1], crowd()[7])

	opens(t, b, api.OK, crowd()...)
	_, _ = append(expired, 77), append(closed, 77)
	spoil(expired, 88)
	same(t, "Close", closed, 3, 5)
	spoil(closed, 99)
	holds(t, b, crowd()...)
	again := b.Close(0, 1)
	b.Expire(1000)
	same(t, "Close", again, 0, 1)
}

// Rule 5: nothing stands in an answer's spare room.
func TestSpareRoom(t *testing.T) {
	clear := func(call string, list []int) {
		t.Helper()
		for _, n := range list[len(list):cap(list)] {
			if n != 0 {
				t.Errorf("%s: spare room %v", call, list[:cap(list)])
			}
		}
	}
	for n := range 9 {
		b := with(t, crowd()[:n]...)
		clear("Expire", b.Expire(12))
		all := b.All()
		for _, s := range all[len(all):cap(all)] {
			if s != (api.Session{}) {
				t.Errorf("All: spare room %v", all[:cap(all)])
			}
		}
		clear("Close", b.Close(1, 3, 5))
		clear("Expire", b.Expire(1000))
	}
}

// Rule 8: two books have nothing in common, though one is loaded of the other.
func TestBooksApart(t *testing.T) {
	b, other := with(t, crowd()...), New()
	if !other.Load(b.All()) {
		t.Fatal("Load")
	}
	touches(t, b, api.OK, 3, 1000)
	b.Close(2, 4)
	b.Expire(10)
	opens(t, b, api.OK, of(2, 1, 1))
	holds(t, other, crowd()...)
	holds(t, New())
}

// Rule 1: nil lists and empty ones are the same.
func TestNilIsEmpty(t *testing.T) {
	for _, list := range [][]api.Session{nil, {}} {
		b := with(t, crowd()...)
		if !b.Load(list) {
			t.Error("Load")
		}
		holds(t, b)
		opens(t, b, api.OK, crowd()...)
		holds(t, b, crowd()...)
	}
	b := with(t, crowd()...)
	if len(b.Close(nil...)) != 0 || len(b.Close([]int{}...)) != 0 || len(b.Close()) != 0 {
		t.Error("Close")
	}
	holds(t, b, crowd()...)
}
