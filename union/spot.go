package union

import (
	"slices"

	"veneer/api"
	"veneer/merge"
	"veneer/path"
	"veneer/walk"
)

// trail is what a walk has come by. A walk knows what it finds by one number: here it is that of a stop, which tells the node and the way there.
type trail struct {
	view  *merge.View
	stops []stop // by their numbers; none has the number 0
}

// stop is a node on a trail.
type stop struct {
	node  api.Node
	above int // the stop of the directory in which it was found; the root's own is itself
	name  string
}

// newTrail is a trail that has come to the root only.
func newTrail(v *merge.View) *trail {
	return &trail{view: v, stops: []stop{root: {node: v.Root(), above: root}}}
}

// Kind tells a stop's kind.
func (t *trail) Kind(at int) int { return t.view.Kind(t.stops[at].node) }

// Get goes to a name in a directory.
func (t *trail) Get(dir int, name string) (int, api.Errno) {
	n, e := t.view.Get(t.stops[dir].node, name)
	if e != api.OK {
		return 0, e
	}
	t.stops = append(t.stops, stop{node: n, above: dir, name: name})
	return len(t.stops) - 1, api.OK
}

// Target tells a link's target.
func (t *trail) Target(at int) (string, api.Errno) { return t.view.Target(t.stops[at].node) }

// Parent tells a directory's parent.
func (t *trail) Parent(at int) int { return t.stops[at].above }

// names are those that lead to a stop from the root, through no link.
func (t *trail) names(at int) []string {
	var names []string
	for ; at != root; at = t.stops[at].above {
		names = append(names, t.stops[at].name)
	}
	slices.Reverse(names)
	return names
}

// spot is a name in a directory, whether something has it or not. The root is a spot without a name, in itself.
type spot struct {
	dir   api.Node
	above []string // the names that lead to the directory
	name  string
	node  api.Node // what has the name; the zero node if nothing has
	asDir bool     // the path says that the name is a directory's
}

// names are those that lead to what has a spot's name.
func (at spot) names() []string {
	if at.name == "" {
		return at.above
	}
	return slices.Concat(at.above, []string{at.name})
}

// empty tells whether nothing has a spot's name.
func (at spot) empty() bool { return at.node == api.Node{} }

// lead tells where a path leads. If nothing but its last name is missing, it tells the spot of that beside ENOENT.
func (s *System) lead(p api.Path, follow bool) (spot, api.Errno) {
	t := newTrail(s.view)
	found, e := walk.Walk(t, p, follow)
	if e != api.OK && found.Name == "" {
		return spot{}, e
	}
	return spot{
		dir:   t.stops[found.Dir].node,
		above: t.names(found.Dir),
		name:  found.Name,
		node:  t.stops[found.Ino].node,
		asDir: p.Dir,
	}, e
}

// find tells where a text's path leads.
func (s *System) find(text string, follow bool) (spot, api.Errno) {
	p, e := path.Parse(text)
	if e != api.OK {
		return spot{}, e
	}
	at, e := s.lead(p, follow)
	if e != api.OK {
		return spot{}, e
	}
	return at, api.OK
}

// place tells the place of a text's path. One without a last name has none, which is told by the error busy.
func (s *System) place(text string, busy api.Errno) (spot, api.Errno) {
	p, e := path.Parse(text)
	if e != api.OK {
		return spot{}, e
	}
	others, name, e := path.Last(p)
	if e != api.OK {
		return spot{}, busy
	}
	in, e := s.lead(others, true)
	switch {
	case e != api.OK:
		return spot{}, e
	case s.view.Kind(in.node) != api.Dir:
		return spot{}, api.ENOTDIR
	}
	// A name that is missing has the zero node.
	n, _ := s.view.Get(in.node, name)
	return spot{dir: in.node, above: in.names(), name: name, node: n, asDir: p.Dir}, api.OK
}

// newPlace is the place of a name for what isn't a directory.
func (s *System) newPlace(text string) (spot, api.Errno) {
	at, e := s.place(text, api.EEXIST)
	switch {
	case e != api.OK:
		return spot{}, e
	case at.asDir:
		return spot{}, api.ENOENT
	}
	return at, api.OK
}
