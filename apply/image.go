package apply

import (
	"bytes"
	"strings"

	"stanchion/api"
	"stanchion/watch"
)

// Image: all that a space is.
func (s *Space) Image() api.Image {
	m := api.Image{
		Time:     s.time,
		Count:    s.count,
		Leaves:   s.All(),
		Watches:  s.watches.All(),
		Sessions: s.sessions.All(),
	}
	for client := range api.MaxPeers {
		for _, w := range s.events[client] {
			m.Events = append(m.Events, copiedEvent(w))
		}
		if r, there := s.replies[client]; there {
			m.Replies = append(m.Replies, copiedReply(r))
		}
	}
	return m
}

// Load: a space anew.
func (s *Space) Load(m api.Image) bool {
	loaded := New()
	if !isWide(m.Time) || !isWide(m.Count) {
		return false
	}
	loaded.time, loaded.count = m.Time, m.Count
	if !loaded.Tree.Load(m.Leaves) || !loaded.watches.Load(m.Watches) || !loaded.sessions.Load(m.Sessions) {
		return false
	}
	if !loaded.loadEvents(m.Events) || !loaded.loadReplies(m.Replies) {
		return false
	}
	*s = *loaded
	return true
}

// loadEvents: these wait, if they may beside the watches that are there.
func (s *Space) loadEvents(list []api.Watch) bool {
	watches := s.watches.All()
	for i, w := range list {
		if !watch.Right(w) || i > 0 && w.Client < list[i-1].Client {
			return false
		}
		if len(s.events[w.Client])+count(watches, w.Client) >= api.MaxWatch {
			return false
		}
		s.events[w.Client] = append(s.events[w.Client], copiedEvent(w))
	}
	return true
}

// loadReplies: these are the last ones, if they may be.
func (s *Space) loadReplies(list []api.Reply) bool {
	for i, r := range list {
		if !isClient(r.Client) || i > 0 && r.Client <= list[i-1].Client {
			return false
		}
		if !isStamp(r.Stamp) || len(r.Data) > api.MaxField {
			return false
		}
		s.replies[r.Client] = copiedReply(r)
	}
	return true
}

// copiedEvent: the event in new memory.
func copiedEvent(w api.Watch) api.Watch {
	w.Path = strings.Clone(w.Path)
	return w
}

// copiedReply: the reply in new memory.
func copiedReply(r api.Reply) api.Reply {
	r.Data = bytes.Clone(r.Data)
	return r
}
