package apply

import (
	"stanchion/api"
	"stanchion/tree"
)

// change is what an operation has done to the tree, of which nobody was told yet.
type change struct {
	made    string // the path of a node that was made
	path    string // what the result tells of the node
	version int
	fire    func() // what is to be fired
}

// single: the result of an operation that changes the tree by itself.
func (s *Space) single(client int, o api.Op) api.Result {
	c, e := s.change(client, o)
	if e != api.OK {
		return plain(e)
	}
	c.fire()
	x := plain(api.OK)
	x.Leaf.Path, x.Leaf.Version = c.path, c.version
	return x
}

// multi: the result of several at once.
func (s *Space) multi(client int, ops []api.Op) api.Result {
	done, e := s.trial().changeAll(client, ops)
	x := plain(e)
	if e != api.OK {
		x.At = len(done)
		return x
	}
	// What has gone well on the same tree goes well again.
	done, _ = s.changeAll(client, ops)
	for _, c := range done {
		x.Names = append(x.Names, c.made)
		c.fire()
	}
	return x
}

// changeAll: one after the other is done up to the first error; those that are done, and that error.
func (s *Space) changeAll(client int, ops []api.Op) ([]change, api.Errno) {
	var done []change
	for _, o := range ops {
		c, e := s.change(client, o)
		if e != api.OK {
			return done, e
		}
		done = append(done, c)
	}
	return done, api.OK
}

// trial: a space with such a tree, but nobody who is told.
func (s *Space) trial() *Space {
	t := &Space{Tree: tree.New()}
	leaves := s.All()
	for i, leaf := range leaves {
		if leaf.Version < 0 {
			// A version that has wrapped can't be loaded; this one too is none that an operation names.
			leaves[i].Version = api.MaxNum
		}
	}
	t.Tree.Load(leaves)
	return t
}

// change: the tree is changed, and nothing fired yet.
func (s *Space) change(client int, o api.Op) (change, api.Errno) {
	switch o.Kind {
	case api.OpMake:
		return s.makeNode(client, o)
	case api.OpDrop:
		return s.dropNode(o.Path, o.Version)
	}
	return s.setNode(o)
}

// makeNode: OpMake's change.
func (s *Space) makeNode(client int, o api.Op) (change, api.Errno) {
	owner := nobody
	if o.Brief {
		owner = client
	}
	p, e := s.Make(o.Path, o.Data, owner, s.count, o.Numbered)
	return change{made: p, path: p, fire: func() { s.fireBoth(p) }}, e
}

// dropNode: the change of a node that is gone.
func (s *Space) dropNode(p string, version int) (change, api.Errno) {
	e := s.Drop(p, version)
	return change{fire: func() { s.fireBoth(p) }}, e
}

// setNode: OpSet's change.
func (s *Space) setNode(o api.Op) (change, api.Errno) {
	version, e := s.Set(o.Path, o.Data, o.Version)
	return change{path: o.Path, version: version, fire: func() { s.fire(api.WatchData, o.Path) }}, e
}
