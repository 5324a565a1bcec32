package union

import (
	"veneer/api"
	"veneer/path"
	"veneer/rule"
)

// open opens a file.
func (s *System) open(c api.Call) api.Result {
	if e := rule.Flags(c.Flag); e != api.OK {
		return failed(e)
	}
	if s.table.Full() {
		return failed(api.EMFILE)
	}
	n, e := s.toOpen(c.A, c.Flag)
	if e != api.OK {
		return failed(e)
	}
	if c.Flag&api.FlagCut != 0 {
		if e := s.upper.Cut(n.U, 0); e != api.OK {
			return failed(e)
		}
	}
	return s.hand(n, api.Desc{Flag: c.Flag})
}

// toOpen is the file that is to be opened. It is made if it is missing and the flags ask for it, and copied if it is to be written.
func (s *System) toOpen(text string, flag int) (api.Node, api.Errno) {
	p, e := path.Parse(text)
	if e != api.OK {
		return api.Node{}, e
	}
	create := flag&api.FlagCreate != 0
	fresh := create && flag&api.FlagExcl != 0
	at, e := s.lead(p, !fresh)
	switch {
	case e == api.ENOENT && at.name != "" && create:
		if p.Dir {
			return api.Node{}, api.EISDIR
		}
		ino, e := s.make(at, api.File, "")
		return api.Node{U: ino}, e
	case e != api.OK:
		return api.Node{}, e
	case fresh:
		return api.Node{}, api.EEXIST
	}
	switch s.view.Kind(at.node) {
	case api.Dir:
		return api.Node{}, api.EISDIR
	case api.Link:
		return api.Node{}, api.ELOOP
	}
	if flag&api.FlagWrite == 0 {
		return at.node, api.OK
	}
	ino, e := s.copyUp(at.names())
	return api.Node{U: ino}, e
}

// hand opens a descriptor on a node.
func (s *System) hand(n api.Node, d api.Desc) api.Result {
	fd, e := s.table.Open(d)
	if e != api.OK {
		return failed(e)
	}
	s.hold(fd, d, n)
	return api.Result{N: int64(fd)}
}

// close closes a descriptor.
func (s *System) close(c api.Call) api.Result {
	d, e := s.table.Close(c.Fd)
	if e != api.OK {
		return failed(e)
	}
	// One of the lower branch alone holds nothing.
	if d.Ino == 0 {
		return api.Result{}
	}
	return failed(s.upper.Release(d.Ino))
}

// read reads where a descriptor stands, or at a place.
func (s *System) read(c api.Call) api.Result {
	return rule.Read(s.table, c, func(d api.Desc, off int64, n int) ([]byte, api.Errno) {
		return s.view.Read(s.node(c.Fd, d), off, n)
	})
}

// write writes where a descriptor stands, at the end, or at a place.
func (s *System) write(c api.Call) api.Result {
	return rule.Write(s.table, c, s.length(c.Fd), func(d api.Desc, off int64, data []byte) (int, api.Errno) {
		// What was opened to be written is in the upper branch since then.
		return s.upper.Write(d.Ino, off, data)
	})
}

// seek moves where a descriptor stands.
func (s *System) seek(c api.Call) api.Result {
	return rule.Seek(s.table, c, s.length(c.Fd))
}

// length tells the size of what a number's descriptor is open on, or 0.
func (s *System) length(fd int) int64 {
	d, e := s.table.Get(fd)
	if e != api.OK {
		return 0
	}
	return s.size(s.node(fd, d))
}

// size tells the size of a node.
func (s *System) size(n api.Node) int64 {
	st, _ := s.view.Stat(n)
	return int64(st.Size)
}

// cut sets a file's size.
func (s *System) cut(c api.Call) api.Result {
	at, e := s.find(c.A, true)
	switch {
	case e != api.OK:
		return failed(e)
	case s.view.Kind(at.node) == api.Dir:
		return failed(api.EISDIR)
	// What can't be cut isn't copied.
	case c.Off < 0:
		return failed(api.EINVAL)
	case c.Off > api.MaxFile:
		return failed(api.EFBIG)
	}
	ino, e := s.copyUp(at.names())
	if e != api.OK {
		return failed(e)
	}
	return failed(s.upper.Cut(ino, c.Off))
}

// opendir opens a directory.
func (s *System) opendir(c api.Call) api.Result {
	if s.table.Full() {
		return failed(api.EMFILE)
	}
	at, e := s.find(c.A, true)
	if e != api.OK {
		return failed(e)
	}
	names, e := s.view.All(at.node)
	if e != api.OK {
		return failed(e)
	}
	return s.hand(at.node, api.Desc{IsDir: true, Names: names})
}

// readdir tells a directory's next name.
func (s *System) readdir(c api.Call) api.Result {
	return rule.Readdir(s.table, c.Fd)
}

// rewind reads a directory's names again.
func (s *System) rewind(c api.Call) api.Result {
	return rule.Rewind(s.table, c.Fd, func(d api.Desc) ([]string, api.Errno) {
		return s.view.All(s.node(c.Fd, d))
	})
}
