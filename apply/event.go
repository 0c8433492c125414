package apply

import (
	"slices"

	"stanchion/api"
	"stanchion/path"
)

// fire: each watch of this kind on this path is an event more.
func (s *Space) fire(kind int, p string) {
	for _, w := range s.watches.Fire(kind, p) {
		s.events[w.Client] = append(s.events[w.Client], w)
	}
}

// fireBoth: what is to be fired of a node that is made or gone.
func (s *Space) fireBoth(p string) {
	s.fire(api.WatchData, p)
	// No root is made or gone, so there is a parent.
	parent, _ := path.Parent(p)
	s.fire(api.WatchKids, parent)
}

// end: nothing is left of a client but its last reply.
func (s *Space) end(client int) {
	s.watches.Drop(client)
	delete(s.events, client)
	s.sessions.Close(client)
	for _, p := range s.Owned(client) {
		// What has an owner has no children: nothing keeps it.
		c, _ := s.dropNode(p, anyVersion)
		c.fire()
	}
}

// keepWatch: the watch is there, if it is wanted.
func (s *Space) keepWatch(wanted bool, w api.Watch) api.Errno {
	if !wanted {
		return api.OK
	}
	all := s.watches.All()
	if !slices.Contains(all, w) && len(s.events[w.Client])+count(all, w.Client) >= api.MaxWatch {
		return api.ErrQuota
	}
	return s.watches.Add(w)
}

// takeEvents: the events that wait for a client; none do any more. Who has no session isn't told them.
func (s *Space) takeEvents(client int) []api.Watch {
	waiting := s.events[client]
	delete(s.events, client)
	if !s.sessions.Live(client) {
		return nil
	}
	return waiting
}

// count: how many of the watches are a client's.
func count(list []api.Watch, client int) int {
	n := 0
	for _, w := range list {
		if w.Client == client {
			n++
		}
	}
	return n
}
