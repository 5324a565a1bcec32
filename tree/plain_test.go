package tree

import (
	"maps"
	"slices"
	"strconv"
	"strings"
	"testing"

	"veneer/api"
	"veneer/branch"
)

// node is a file, a directory or a link told the plainest way.
type node struct {
	kind  int
	names map[string]*node // of a directory
	up    *node            // of a directory
	data  []byte           // of a file: as many as its size
	there map[int]bool     // of a file: which chunks take room
	text  string           // of a link
}

// opened is a descriptor told the plainest way.
type opened struct {
	it    *node
	flag  int
	off   int64
	isDir bool
	rest  []string // of a directory: the names that are still to be told
}

// plain is a system told the plainest way: what is there is what the root and the descriptors lead to, and it is counted anew each time.
type plain struct {
	room int
	root *node
	open map[int]*opened
}

func newPlain(room int) *plain {
	root := &node{kind: 2, names: map[string]*node{}}
	root.up = root
	return &plain{room: room, root: root, open: map[int]*opened{}}
}

// links tells how many names each node has, all that is there.
func (p *plain) links() map[*node]int {
	all := map[*node]int{p.root: 1}
	var visit func(*node)
	visit = func(dir *node) {
		for _, kid := range dir.names {
			all[kid]++
			if kid.kind == 2 {
				visit(kid)
			}
		}
	}
	visit(p.root)
	for _, d := range p.open {
		all[d.it] += 0
	}
	return all
}

// used tells how many chunks take room.
func (p *plain) used() int {
	n := 0
	for it := range p.links() {
		n += len(it.there)
	}
	return n
}

// split parts a path into its names, and tells whether it is a directory's.
func split(text string) ([]string, bool, api.Errno) {
	switch {
	case text == "":
		return nil, false, 2
	case len(text) > 400:
		return nil, false, 36
	case strings.Contains(text, "\x00"):
		return nil, false, 22
	}
	var names []string
	parts := strings.Split(text, "/")
	for _, part := range parts {
		if len(part) > 60 {
			return nil, false, 36
		}
		if part != "" && part != "." {
			names = append(names, part)
		}
	}
	if len(names) > 40 {
		return nil, false, 36
	}
	last := parts[len(parts)-1]
	return names, last == "" || last == "." || last == "..", 0
}

// found is where names lead.
type found struct {
	in   *node
	name string
	it   *node
}

// lead tells where names lead from a directory. If only the last one is missing, it tells where that is, beside ENOENT.
func (p *plain) lead(at *node, names []string, dir, follow bool, links int) (found, api.Errno) {
	if len(names) == 0 {
		return found{at, "", at}, 0
	}
	if at.kind != 2 {
		return found{}, 20
	}
	name, rest := names[0], names[1:]
	if name == ".." {
		return p.lead(at.up, rest, dir, follow, links)
	}
	kid := at.names[name]
	switch {
	case kid == nil && len(rest) == 0:
		return found{at, name, nil}, 2
	case kid == nil:
		return found{}, 2
	case kid.kind == 3 && (len(rest) > 0 || follow || dir):
		if links == 40 {
			return found{}, 40
		}
		more, asDir, e := split(kid.text)
		if e != 0 {
			return found{}, e
		}
		if kid.text[0] == '/' {
			at = p.root
		}
		return p.lead(at, slices.Concat(more, rest), dir || asDir && len(rest) == 0, follow, links+1)
	case len(rest) > 0:
		return p.lead(kid, rest, dir, follow, links)
	case dir && kid.kind != 2:
		return found{}, 20
	}
	return found{at, name, kid}, 0
}

// follow tells where a path leads.
func (p *plain) follow(text string, follow bool) (found, api.Errno) {
	names, dir, e := split(text)
	if e != 0 {
		return found{}, e
	}
	return p.lead(p.root, names, dir, follow, 0)
}

// spot tells the directory of a path's last name, that name, what has it, and whether the path is a directory's.
func (p *plain) spot(text string, busy api.Errno) (found, bool, api.Errno) {
	names, dir, e := split(text)
	if e != 0 {
		return found{}, false, e
	}
	last := len(names) - 1
	if last < 0 || names[last] == ".." {
		return found{}, false, busy
	}
	f, e := p.lead(p.root, names[:last], true, true, 0)
	if e != 0 {
		return found{}, false, e
	}
	return found{f.it, names[last], f.it.names[names[last]]}, dir, 0
}

// add gives a directory what is new.
func (p *plain) add(in *node, name string, it *node) api.Errno {
	switch {
	case in.names[name] != nil:
		return 17
	case len(p.links()) == 200:
		return 28
	}
	if it.kind == 2 {
		it.names, it.up = map[string]*node{}, in
	}
	in.names[name] = it
	return 0
}

// do does a call.
func (p *plain) do(c api.Call) api.Result {
	switch c.Op {
	case 1:
		return p.doOpen(c)
	case 2:
		if p.open[c.Fd] == nil {
			return api.Result{E: 9}
		}
		delete(p.open, c.Fd)
		return api.Result{}
	case 3, 5:
		return p.doRead(c)
	case 4, 6:
		return p.doWrite(c)
	case 7:
		return p.doSeek(c)
	case 8:
		return api.Result{E: p.doCut(c)}
	case 9, 10, 16:
		return p.doTell(c)
	case 11, 15:
		return api.Result{E: p.doMake(c)}
	case 12, 13:
		return api.Result{E: p.doRemove(c)}
	case 14:
		return api.Result{E: p.doLink(c)}
	case 17:
		return api.Result{E: p.doRename(c)}
	case 18:
		return p.doOpendir(c)
	case 19, 20:
		return p.doNames(c)
	}
	return api.Result{E: 22}
}

// number opens a descriptor.
func (p *plain) number(d *opened) api.Result {
	fd := 0
	for p.open[fd] != nil {
		fd++
	}
	p.open[fd] = d
	return api.Result{N: int64(fd)}
}

func (p *plain) doOpen(c api.Call) api.Result {
	read, write := c.Flag&1 > 0, c.Flag&2 > 0
	create, excl, cut, app := c.Flag&4 > 0, c.Flag&8 > 0, c.Flag&16 > 0, c.Flag&32 > 0
	if !read && !write || cut && !write || app && !write {
		return api.Result{E: 22}
	}
	if len(p.open) == 32 {
		return api.Result{E: 24}
	}
	f, e := p.follow(c.A, !(create && excl))
	if e == 2 && f.in != nil && create {
		if _, dir, _ := split(c.A); dir {
			return api.Result{E: 21}
		}
		it := &node{kind: 1, there: map[int]bool{}}
		if e := p.add(f.in, f.name, it); e != 0 {
			return api.Result{E: e}
		}
		return p.number(&opened{it: it, flag: c.Flag})
	}
	switch {
	case e != 0:
		return api.Result{E: e}
	case create && excl:
		return api.Result{E: 17}
	case f.it.kind == 2:
		return api.Result{E: 21}
	}
	if cut {
		f.it.resize(0)
	}
	return p.number(&opened{it: f.it, flag: c.Flag})
}

// resize sets a file's size.
func (n *node) resize(size int) {
	for len(n.data) < size {
		n.data = append(n.data, 0)
	}
	n.data = n.data[:size]
	maps.DeleteFunc(n.there, func(k int, _ bool) bool { return k*16 >= size })
}

func (p *plain) doRead(c api.Call) api.Result {
	d := p.open[c.Fd]
	if d == nil || d.isDir || d.flag&1 == 0 {
		return api.Result{E: 9}
	}
	if c.N < 0 || c.Op == 5 && c.Off < 0 {
		return api.Result{E: 22}
	}
	off := d.off
	if c.Op == 5 {
		off = c.Off
	}
	var s []byte
	if off < int64(len(d.it.data)) {
		s = d.it.data[off:]
	}
	if int64(len(s)) > c.N {
		s = s[:c.N]
	}
	if c.Op == 3 {
		d.off += int64(len(s))
	}
	return api.Result{N: int64(len(s)), S: string(s)}
}

func (p *plain) doWrite(c api.Call) api.Result {
	d := p.open[c.Fd]
	if d == nil || d.isDir || d.flag&2 == 0 {
		return api.Result{E: 9}
	}
	off := d.off
	if c.Op == 6 {
		off = c.Off
	} else if d.flag&32 > 0 {
		off = int64(len(d.it.data))
	}
	if off < 0 {
		return api.Result{E: 22}
	}
	if c.A != "" && off >= 65536 {
		return api.Result{E: 27}
	}
	n := int64(0)
	used := p.used()
	for ; n < int64(len(c.A)) && off+n < 65536; n++ {
		at := int(off + n)
		if !d.it.there[at/16] {
			if used == p.room {
				break
			}
			used++
			d.it.there[at/16] = true
		}
		if at >= len(d.it.data) {
			d.it.resize(at + 1)
		}
		d.it.data[at] = c.A[n]
	}
	if n == 0 && c.A != "" {
		return api.Result{E: 28}
	}
	if c.Op == 4 {
		d.off = off + n
	}
	return api.Result{N: n}
}

func (p *plain) doSeek(c api.Call) api.Result {
	d := p.open[c.Fd]
	if d == nil || d.isDir {
		return api.Result{E: 9}
	}
	from, ok := map[int]int64{0: 0, 1: d.off, 2: int64(len(d.it.data))}[c.Flag]
	to := float64(from) + float64(c.Off)
	if !ok || to < 0 || to > 1<<40 {
		return api.Result{E: 22}
	}
	d.off = from + c.Off
	return api.Result{N: d.off}
}

func (p *plain) doCut(c api.Call) api.Errno {
	f, e := p.follow(c.A, true)
	switch {
	case e != 0:
		return e
	case f.it.kind == 2:
		return 21
	case c.Off < 0:
		return 22
	case c.Off > 65536:
		return 27
	}
	f.it.resize(int(c.Off))
	return 0
}

// doTell is stat, lstat and readlink.
func (p *plain) doTell(c api.Call) api.Result {
	f, e := p.follow(c.A, c.Op == 9)
	switch {
	case e != 0:
		return api.Result{E: e}
	case c.Op != 16:
		return api.Result{T: api.Stat{Kind: f.it.kind, Size: len(f.it.data) + len(f.it.text) + len(f.it.names), Link: p.links()[f.it]}}
	case f.it.kind != 3:
		return api.Result{E: 22}
	}
	return api.Result{N: int64(len(f.it.text)), S: f.it.text}
}

// doMake is mkdir and symlink.
func (p *plain) doMake(c api.Call) api.Errno {
	if c.Op == 11 {
		f, _, e := p.spot(c.A, 17)
		if e != 0 {
			return e
		}
		return p.add(f.in, f.name, &node{kind: 2})
	}
	switch {
	case c.A == "":
		return 2
	case len(c.A) > 400:
		return 36
	case strings.Contains(c.A, "\x00"):
		return 22
	}
	f, dir, e := p.spot(c.B, 17)
	switch {
	case e != 0:
		return e
	case dir:
		return 2
	}
	return p.add(f.in, f.name, &node{kind: 3, text: c.A})
}

// doRemove is rmdir and unlink.
func (p *plain) doRemove(c api.Call) api.Errno {
	f, dir, e := p.spot(c.A, map[int]api.Errno{12: 16, 13: 21}[c.Op])
	switch {
	case e != 0:
		return e
	case f.it == nil:
		return 2
	case c.Op == 12 && f.it.kind != 2:
		return 20
	case c.Op == 12 && len(f.it.names) > 0:
		return 39
	case c.Op == 13 && f.it.kind == 2:
		return 21
	case c.Op == 13 && dir:
		return 20
	}
	delete(f.in.names, f.name)
	return 0
}

func (p *plain) doLink(c api.Call) api.Errno {
	f, e := p.follow(c.A, false)
	switch {
	case e != 0:
		return e
	case f.it.kind == 2:
		return 1
	}
	to, dir, e := p.spot(c.B, 17)
	switch {
	case e != 0:
		return e
	case dir:
		return 2
	case to.it != nil:
		return 17
	case p.links()[f.it] == 20:
		return 31
	}
	to.in.names[to.name] = f.it
	return 0
}

func (p *plain) doRename(c api.Call) api.Errno {
	f, dir, e := p.spot(c.A, 16)
	if e != 0 {
		return e
	}
	to, dir2, e := p.spot(c.B, 16)
	switch {
	case e != 0:
		return e
	case f.it == nil:
		return 2
	case (dir || dir2) && f.it.kind != 2:
		return 20
	}
	if e := f.it.fits(to); e != 0 || to.it == f.it {
		return e
	}
	delete(f.in.names, f.name)
	to.in.names[to.name] = f.it
	if f.it.kind == 2 {
		f.it.up = to.in
	}
	return 0
}

// fits tells what is wrong with giving a node another place.
func (n *node) fits(to found) api.Errno {
	if n.kind == 2 {
		for at := to.in; ; at = at.up {
			if at == n {
				return 22
			}
			if at.up == at {
				break
			}
		}
	}
	switch {
	case to.it == nil || to.it == n:
		return 0
	case to.it.kind == 2 && n.kind != 2:
		return 21
	case to.it.kind != 2 && n.kind == 2:
		return 20
	case len(to.it.names) > 0:
		return 39
	}
	return 0
}

func (p *plain) doOpendir(c api.Call) api.Result {
	if len(p.open) == 32 {
		return api.Result{E: 24}
	}
	f, e := p.follow(c.A, true)
	switch {
	case e != 0:
		return api.Result{E: e}
	case f.it.kind != 2:
		return api.Result{E: 20}
	}
	return p.number(&opened{it: f.it, isDir: true, rest: slices.Sorted(maps.Keys(f.it.names))})
}

// doNames is readdir and rewind.
func (p *plain) doNames(c api.Call) api.Result {
	d := p.open[c.Fd]
	switch {
	case d == nil || !d.isDir:
		return api.Result{E: 9}
	case c.Op == 20:
		d.rest = slices.Sorted(maps.Keys(d.it.names))
		return api.Result{}
	case len(d.rest) == 0:
		return api.Result{}
	}
	name := d.rest[0]
	d.rest = d.rest[1:]
	return api.Result{N: 1, S: name}
}

// few is what of a file is told of it: its ends, if it is great.
func few(data string) string {
	if len(data) > 256 {
		return data[:64] + ".." + data[len(data)-64:]
	}
	return data
}

// lines tells all names below a directory, and what has them; of what has several names, which is the first.
func (p *plain) lines() []string {
	var l []string
	links, first := p.links(), map[*node]string{}
	var visit func(*node, string)
	visit = func(dir *node, at string) {
		for _, name := range slices.Sorted(maps.Keys(dir.names)) {
			it, full := dir.names[name], at+"/"+name
			if first[it] == "" {
				first[it] = full
			}
			l = append(l, full+" "+strconv.Itoa(it.kind)+" "+strconv.Itoa(links[it])+" "+first[it]+" "+few(string(it.data))+it.text)
			if it.kind == 2 {
				visit(it, full)
			}
		}
	}
	visit(p.root, "")
	for _, fd := range slices.Sorted(maps.Keys(p.open)) {
		d := p.open[fd]
		if d.isDir {
			l = append(l, "descriptor "+strconv.Itoa(fd))
			continue
		}
		data := ""
		if d.flag&1 > 0 {
			data = few(string(d.it.data))
		}
		l = append(l, "descriptor "+strconv.Itoa(fd)+" at "+strconv.FormatInt(d.off, 10)+" "+data)
	}
	return append(l, strconv.Itoa(len(links))+" inodes, "+strconv.Itoa(p.used())+" chunks")
}

// tells tells the same of a system.
func tells(s *System) []string {
	var l []string
	b, first := s.Branch(), map[int]string{}
	var visit func(int, string)
	visit = func(dir int, at string) {
		all, _ := b.All(dir)
		for _, x := range all {
			full := at + "/" + x.Name
			if first[x.Ino] == "" {
				first[x.Ino] = full
			}
			st, _ := b.Stat(x.Ino)
			data, _ := b.Read(x.Ino, 0, 1<<17)
			text, _ := b.Target(x.Ino)
			l = append(l, full+" "+strconv.Itoa(st.Kind)+" "+strconv.Itoa(st.Link)+" "+first[x.Ino]+" "+few(string(data))+text)
			visit(x.Ino, full)
		}
	}
	visit(1, "")
	for _, fd := range s.Open() {
		at := s.Do(api.Call{Op: 7, Fd: fd, Flag: 1})
		if at.E != 0 {
			l = append(l, "descriptor "+strconv.Itoa(fd))
			continue
		}
		data := s.Do(api.Call{Op: 5, Fd: fd, N: 1 << 17}).S
		l = append(l, "descriptor "+strconv.Itoa(fd)+" at "+strconv.FormatInt(at.N, 10)+" "+few(data))
	}
	return append(l, strconv.Itoa(b.Inodes())+" inodes, "+strconv.Itoa(b.Used())+" chunks")
}

// both is a system, and a plain one beside it.
type both struct {
	t *testing.T
	s *System
	p *plain
}

func newBoth(t *testing.T, room int) *both {
	t.Helper()
	s := New(branch.New(room))
	if s == nil {
		t.Fatalf("room %d: no system", room)
	}
	return &both{t, s, newPlain(room)}
}

// short is a call as a test tells it.
func short(c api.Call) string {
	return "Op " + strconv.Itoa(c.Op) + ", Fd " + strconv.Itoa(c.Fd) + ", Flag " + strconv.Itoa(c.Flag) + ", N " + strconv.FormatInt(c.N, 10) +
		", Off " + strconv.FormatInt(c.Off, 10) + ", A " + strconv.Quote(few(c.A)) + ", B " + strconv.Quote(few(c.B))
}

// shortly is a result as a test tells it.
func shortly(r api.Result) string {
	return "E " + strconv.Itoa(int(r.E)) + ", N " + strconv.FormatInt(r.N, 10) + ", S " + strconv.Quote(few(r.S)) +
		", T " + strconv.Itoa(r.T.Kind) + " " + strconv.Itoa(r.T.Size) + " " + strconv.Itoa(r.T.Link)
}

// do does a call on both, and holds them against each other.
func (b *both) do(c api.Call) api.Result {
	b.t.Helper()
	got, want := b.s.Do(c), b.p.do(c)
	if got != want {
		b.t.Fatalf("%s: %s; want %s", short(c), shortly(got), shortly(want))
	}
	b.same(short(c))
	return got
}

// same holds what both have against each other.
func (b *both) same(after string) {
	b.t.Helper()
	got, want := tells(b.s), b.p.lines()
	for i := range max(len(got), len(want)) {
		if i >= len(got) || i >= len(want) || got[i] != want[i] {
			b.t.Fatalf("after %s: %.300q; want %.300q", after, got[min(i, len(got)):min(i+1, len(got))], want[min(i, len(want)):min(i+1, len(want))])
		}
	}
}

// gives does a call on both, and holds it against a result.
func (b *both) gives(c api.Call, want api.Result) {
	b.t.Helper()
	if got := b.do(c); got != want {
		b.t.Fatalf("%s: %s; want %s", short(c), shortly(got), shortly(want))
	}
}
