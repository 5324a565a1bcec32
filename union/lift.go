package union

import (
	"veneer/api"
)

// Whatever is copied, the descriptors that were opened on it in the lower branch continue with the copy: also if the rest of it can't be copied.

// chain is an upper directory to which names lead.
func (s *System) chain(names []string) (int, api.Errno) {
	defer s.lift(s.low())
	return s.copier.Chain(names)
}

// copyUp is the upper inode of what names lead to.
func (s *System) copyUp(names []string) (int, api.Errno) {
	defer s.lift(s.low())
	return s.copier.Up(names)
}

// copyDeep is the upper inode of what names lead to, below which nothing is left to the lower branch.
func (s *System) copyDeep(names []string) (int, api.Errno) {
	defer s.lift(s.low())
	return s.copier.Deep(names)
}

// node is what a number's descriptor is open on.
func (s *System) node(fd int, d api.Desc) api.Node {
	return api.Node{U: d.Ino, L: s.under[fd]}
}

// low are the descriptors of what the lower branch alone has, and is seen.
func (s *System) low() []int {
	var low []int
	for _, fd := range s.table.All() {
		d, _ := s.table.Get(fd)
		n := s.node(fd, d)
		if n.U == 0 && s.seen(n.L) == n {
			low = append(low, fd)
		}
	}
	return low
}

// seen is what has a lower inode's place. That place is the same as in the lower branch: who moves a directory copies all of it.
func (s *System) seen(ino int) api.Node {
	n, _ := s.copier.Node(s.homes[ino])
	return n
}

// lift lets descriptors go on with what the upper branch has now in the places of their lower inodes, if it has something.
func (s *System) lift(low []int) {
	for _, fd := range low {
		n := s.seen(s.under[fd])
		if n.U != 0 {
			d, _ := s.table.Get(fd)
			s.hold(fd, d, n)
		}
	}
}

// hold opens an open descriptor on a node. An upper inode is held, as it must stay when it has no name any more; a lower one stays anyway.
func (s *System) hold(fd int, d api.Desc, n api.Node) {
	s.upper.Hold(n.U)
	d.Ino, s.under[fd] = n.U, n.L
	s.table.Set(fd, d)
}
