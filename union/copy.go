package union

import (
	"strconv"

	"veneer/api"
	"veneer/draft"
)

// Copy is a lower file that is copied in steps.
type Copy struct {
	s     *System
	ino   int // the lower file's
	draft *draft.Draft
	whole bool // nothing is left to copy
	over  bool // dropped or published: the draft isn't in work any more
}

// Begin begins a copy.
func (s *System) Begin(text string) (*Copy, api.Errno) {
	if s == nil {
		return nil, api.EINVAL
	}
	at, e := s.find(text, true)
	if e != api.OK {
		return nil, e
	}
	switch {
	case s.view.Kind(at.node) == api.Dir:
		return nil, api.EISDIR
	case s.view.Kind(at.node) != api.File || at.node.U != 0:
		return nil, api.OK
	}
	d, e := draft.New(s.upper, work, s.spare(), s.view, at.node)
	if e != api.OK {
		return nil, e
	}
	return &Copy{s: s, ino: at.node.L, draft: d}, api.OK
}

// spare is a name that nothing has in work: a number, as the names of what calls put there aren't.
func (s *System) spare() string {
	for n := 1; ; n++ {
		name := strconv.Itoa(n)
		if _, e := s.upper.Get(work, name); e != api.OK {
			return name
		}
	}
}

// Key tells the lower file's inode.
func (c *Copy) Key() int {
	// Begin answers nil where there is nothing to copy, and the methods may be called on what it answers.
	if c == nil {
		return 0
	}
	return c.ino
}

// Step copies a chunk.
func (c *Copy) Step() (bool, api.Errno) {
	if c == nil || c.whole || c.over {
		return true, api.OK
	}
	whole, e := c.draft.Step()
	if e != api.OK {
		c.Drop()
		return true, e
	}
	c.whole = whole
	return whole, api.OK
}

// Publish puts the copy in its place.
func (c *Copy) Publish() bool {
	if c == nil {
		return false
	}
	if !c.settle() {
		c.Drop()
		return false
	}
	c.over = true
	return true
}

// settle gives the draft the file's place, if it is whole and the file is still seen there.
func (c *Copy) settle() bool {
	if c.over || !c.whole || c.s.seen(c.ino) != (api.Node{L: c.ino}) {
		return false
	}
	defer c.s.lift(c.s.low())
	names := c.s.homes[c.ino]
	last := len(names) - 1
	dir, e := c.s.copier.Chain(names[:last])
	return e == api.OK && c.draft.Move(dir, names[last]) == api.OK
}

// Drop takes the copy away.
func (c *Copy) Drop() {
	if c == nil || c.over {
		return
	}
	c.over = true
	c.draft.Drop()
}
