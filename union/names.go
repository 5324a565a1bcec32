package union

import (
	"slices"

	"veneer/api"
	"veneer/rule"
)

// white is the name that a White has in work till it gets its place. Drafts have others.
const white = "w"

// stat tells where a path leads.
func (s *System) stat(c api.Call) api.Result {
	return s.told(c.A, true)
}

// lstat tells where a path leads; a link isn't followed.
func (s *System) lstat(c api.Call) api.Result {
	return s.told(c.A, false)
}

// told tells what a path leads to.
func (s *System) told(text string, follow bool) api.Result {
	at, e := s.find(text, follow)
	if e != api.OK {
		return failed(e)
	}
	st, e := s.view.Stat(at.node)
	return api.Result{E: e, T: st}
}

// readlink tells a link's target.
func (s *System) readlink(c api.Call) api.Result {
	at, e := s.find(c.A, false)
	if e != api.OK {
		return failed(e)
	}
	text, e := s.view.Target(at.node)
	return api.Result{E: e, N: int64(len(text)), S: text}
}

// mkdir makes a directory.
func (s *System) mkdir(c api.Call) api.Result {
	at, e := s.place(c.A, api.EEXIST)
	if e != api.OK {
		return failed(e)
	}
	_, e = s.make(at, api.Dir, "")
	return failed(e)
}

// symlink makes a link.
func (s *System) symlink(c api.Call) api.Result {
	if e := rule.Target(c.A); e != api.OK {
		return failed(e)
	}
	at, e := s.newPlace(c.B)
	if e != api.OK {
		return failed(e)
	}
	_, e = s.make(at, api.Link, c.A)
	return failed(e)
}

// make makes what is to have a spot's name.
func (s *System) make(at spot, kind int, target string) (int, api.Errno) {
	if !at.empty() {
		return 0, api.EEXIST
	}
	dir, e := s.chain(at.above)
	if e != api.OK {
		return 0, e
	}
	// Where a White stood its number is free, so that what follows can't fail.
	s.erase(dir, at.name)
	ino, e := s.upper.Make(dir, at.name, kind, target)
	if e != api.OK {
		return 0, e
	}
	s.part(ino)
	return ino, api.OK
}

// part lets an upper inode, if it is a directory, show nothing of a lower one that has its place.
func (s *System) part(ino int) {
	if s.upper.Kind(ino) == api.Dir {
		s.upper.Mark(ino, api.Opaque)
	}
}

// erase takes away what the upper branch has under a name, if it has something: a directory must look empty.
func (s *System) erase(dir int, name string) {
	ino, e := s.upper.Get(dir, name)
	if e != api.OK {
		return
	}
	if s.upper.Kind(ino) != api.Dir {
		s.upper.Unlink(dir, name)
		return
	}
	// Who has it open still lists it, and what its Whites hid must not be seen then.
	s.part(ino)
	whites, _ := s.upper.All(ino)
	for _, entry := range whites {
		s.upper.Unlink(ino, entry.Name)
	}
	s.upper.Rmdir(dir, name)
}

// veil makes a White, in work, for a spot's name that the lower branch has too. It gets its place by drape, when nothing can fail any more.
func (s *System) veil(at spot) api.Errno {
	if _, e := s.lower.Get(at.dir.L, at.name); e != api.OK {
		return api.OK
	}
	_, e := s.upper.Make(work, white, api.White, "")
	return e
}

// drape hides a spot's name, which the upper branch hasn't any more, by the White that veil made. If it made none, there is nothing to hide.
func (s *System) drape(dir int, at spot) {
	s.upper.Rename(work, white, dir, at.name)
}

// rmdir takes a directory away.
func (s *System) rmdir(c api.Call) api.Result {
	at, e := s.place(c.A, api.EBUSY)
	if e != api.OK {
		return failed(e)
	}
	switch s.view.Kind(at.node) {
	case 0:
		return failed(api.ENOENT)
	case api.Dir:
		if s.size(at.node) > 0 {
			return failed(api.ENOTEMPTY)
		}
		return failed(s.remove(at))
	}
	return failed(api.ENOTDIR)
}

// unlink takes a name away.
func (s *System) unlink(c api.Call) api.Result {
	at, e := s.place(c.A, api.EISDIR)
	if e != api.OK {
		return failed(e)
	}
	switch s.view.Kind(at.node) {
	case 0:
		return failed(api.ENOENT)
	case api.Dir:
		return failed(api.EISDIR)
	}
	if at.asDir {
		return failed(api.ENOTDIR)
	}
	return failed(s.remove(at))
}

// remove takes a spot's name away.
func (s *System) remove(at spot) api.Errno {
	dir, e := s.chain(at.above)
	if e != api.OK {
		return e
	}
	if e := s.veil(at); e != api.OK {
		return e
	}
	s.erase(dir, at.name)
	s.drape(dir, at)
	return api.OK
}

// link gives a file one name more.
func (s *System) link(c api.Call) api.Result {
	from, e := s.find(c.A, false)
	switch {
	case e != api.OK:
		return failed(e)
	case s.view.Kind(from.node) == api.Dir:
		return failed(api.EPERM)
	}
	to, e := s.newPlace(c.B)
	if e != api.OK {
		return failed(e)
	}
	return failed(s.join(from, to))
}

// join gives what has a spot's name another one.
func (s *System) join(from, to spot) api.Errno {
	st, e := s.view.Stat(from.node)
	switch {
	case e != api.OK:
		return e
	case !to.empty():
		return api.EEXIST
	case st.Link >= api.MaxLink:
		return api.EMLINK
	}
	ino, e := s.copyUp(from.names())
	if e != api.OK {
		return e
	}
	dir, e := s.chain(to.above)
	if e != api.OK {
		return e
	}
	s.erase(dir, to.name)
	return s.upper.Link(dir, to.name, ino)
}

// rename gives what has a name another one.
func (s *System) rename(c api.Call) api.Result {
	from, e := s.place(c.A, api.EBUSY)
	if e != api.OK {
		return failed(e)
	}
	to, e := s.place(c.B, api.EBUSY)
	if e != api.OK {
		return failed(e)
	}
	if e := s.fits(from, to); e != api.OK {
		return failed(e)
	}
	if from.node == to.node {
		return api.Result{}
	}
	return failed(s.move(from, to))
}

// fits tells what is wrong with giving what has a spot's name another one.
func (s *System) fits(from, to spot) api.Errno {
	kind, old := s.view.Kind(from.node), s.view.Kind(to.node)
	isDir, oldDir := kind == api.Dir, old == api.Dir
	switch {
	case kind == 0:
		return api.ENOENT
	case (from.asDir || to.asDir) && !isDir:
		return api.ENOTDIR
	case isDir && within(to.above, from.names()):
		return api.EINVAL
	case old == 0 || from.node == to.node:
		return api.OK
	case oldDir && !isDir:
		return api.EISDIR
	case !oldDir && isDir:
		return api.ENOTDIR
	case oldDir && s.size(to.node) > 0:
		return api.ENOTEMPTY
	}
	return api.OK
}

// within tells whether names lead to a directory or to something below it.
func within(names, dir []string) bool {
	return len(names) >= len(dir) && slices.Equal(names[:len(dir)], dir)
}

// move gives what has a spot's name another one, from which it takes what has that. All that may fail comes first.
func (s *System) move(from, to spot) api.Errno {
	ino, e := s.copyDeep(from.names())
	if e != api.OK {
		return e
	}
	dir, e := s.chain(from.above)
	if e != api.OK {
		return e
	}
	into, e := s.chain(to.above)
	if e != api.OK {
		return e
	}
	if e := s.veil(from); e != api.OK {
		return e
	}
	s.erase(into, to.name)
	s.part(ino)
	s.upper.Rename(dir, from.name, into, to.name)
	s.drape(dir, from)
	return api.OK
}
