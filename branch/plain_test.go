package branch

import (
	"bytes"
	"maps"
	"slices"
	"strings"
	"testing"

	"veneer/api"
)

// thing is an inode told the plainest way.
type thing struct {
	kind, parent, holds, marks int
	target                     string
	names                      map[string]int // of a directory
	data                       []byte         // of a file: as many as its size
	there                      map[int]bool   // of a file: which chunks take room
}

// plain is a branch told the plainest way: how many links there are, what is free and what is used is counted anew each time.
type plain struct {
	room   int
	things map[int]*thing
}

func newPlain(room int) *plain {
	return &plain{room: room, things: map[int]*thing{1: {kind: 2, parent: 1, names: map[string]int{}}}}
}

// first is the first error of some.
func first(errors ...api.Errno) api.Errno {
	for _, e := range errors {
		if e != api.OK {
			return e
		}
	}
	return api.OK
}

// when is the error if something is so.
func when(so bool, e api.Errno) api.Errno {
	if so {
		return e
	}
	return api.OK
}

// at is the thing of a number, or an empty one.
func (p *plain) at(ino int) *thing {
	if x := p.things[ino]; x != nil {
		return x
	}
	return &thing{}
}

// links counts the names that refer to each number.
func (p *plain) links() map[int]int {
	n := map[int]int{1: 1}
	for _, x := range p.things {
		for _, ino := range x.names {
			n[ino]++
		}
	}
	return n
}

func (p *plain) used() int {
	n := 0
	for _, x := range p.things {
		n += len(x.there)
	}
	return n
}

// free is the lowest free number, or 0.
func (p *plain) free() int {
	for ino := 1; ino <= 200; ino++ {
		if p.things[ino] == nil {
			return ino
		}
	}
	return 0
}

// sweep removes what has neither links nor holds.
func (p *plain) sweep() {
	n := p.links()
	for ino, x := range p.things {
		if n[ino] == 0 && x.holds == 0 {
			delete(p.things, ino)
		}
	}
}

// dirError is the check of a directory.
func (p *plain) dirError(dir int, changes bool) api.Errno {
	return first(
		when(p.things[dir] == nil, api.ENOENT),
		when(p.at(dir).kind != 2, api.ENOTDIR),
		when(changes && p.links()[dir] == 0, api.ENOENT),
	)
}

// nameError is the check of a new name.
func nameError(name string) api.Errno {
	return first(
		when(name == "", api.ENOENT),
		when(len(name) > 60, api.ENAMETOOLONG),
		when(strings.Contains(name, "\x00") || strings.Contains(name, "/"), api.EINVAL),
		when(name == "." || name == "..", api.EINVAL),
	)
}

func (p *plain) make(dir int, name string, kind int, target string) (int, api.Errno) {
	e := first(
		p.dirError(dir, true),
		nameError(name),
		when(p.at(dir).names[name] != 0, api.EEXIST),
		when(kind < 1 || kind > 4, api.EINVAL),
		when(target != "" && kind != 3, api.EINVAL),
		when(kind == 3 && (target == "" || len(target) > 400), api.EINVAL),
		when(p.free() == 0, api.ENOSPC),
	)
	if e != api.OK {
		return 0, e
	}
	ino := p.free()
	x := &thing{kind: kind, target: target}
	if kind == 1 {
		x.there = map[int]bool{}
	}
	if kind == 2 {
		x.names, x.parent = map[string]int{}, dir
	}
	p.things[ino] = x
	p.at(dir).names[name] = ino
	return ino, api.OK
}

func (p *plain) get(dir int, name string) (int, api.Errno) {
	ino := p.at(dir).names[name]
	return ino, first(p.dirError(dir, false), when(ino == 0, api.ENOENT))
}

func (p *plain) link(dir int, name string, ino int) api.Errno {
	n := p.links()[ino]
	e := first(
		p.dirError(dir, true),
		nameError(name),
		when(p.at(dir).names[name] != 0, api.EEXIST),
		when(p.things[ino] == nil || n == 0, api.ENOENT),
		when(p.at(ino).kind == 2, api.EPERM),
		when(n == 20, api.EMLINK),
	)
	if e == api.OK {
		p.at(dir).names[name] = ino
	}
	return e
}

func (p *plain) unlink(dir int, name string) api.Errno {
	ino := p.at(dir).names[name]
	e := first(p.dirError(dir, true), when(ino == 0, api.ENOENT), when(p.at(ino).kind == 2, api.EISDIR))
	if e == api.OK {
		delete(p.at(dir).names, name)
		p.sweep()
	}
	return e
}

func (p *plain) rmdir(dir int, name string) api.Errno {
	ino := p.at(dir).names[name]
	e := first(
		p.dirError(dir, true),
		when(ino == 0, api.ENOENT),
		when(p.at(ino).kind != 2, api.ENOTDIR),
		when(len(p.at(ino).names) > 0, api.ENOTEMPTY),
	)
	if e == api.OK {
		delete(p.at(dir).names, name)
		p.sweep()
	}
	return e
}

// below is a number and all that is reached from it by names.
func (p *plain) below(top int) []int {
	all := []int{top}
	for _, ino := range p.at(top).names {
		all = append(all, p.below(ino)...)
	}
	return all
}

func (p *plain) rename(dir int, name string, to int, as string) api.Errno {
	ino, old := p.at(dir).names[name], p.at(to).names[as]
	isDir, wasDir := p.at(ino).kind == 2, p.at(old).kind == 2
	e := first(
		p.dirError(dir, true),
		when(ino == 0, api.ENOENT),
		p.dirError(to, true),
		nameError(as),
		when(isDir && slices.Contains(p.below(ino), to), api.EINVAL),
	)
	if e != api.OK || old == ino {
		return e
	}
	e = first(
		when(old != 0 && wasDir && !isDir, api.EISDIR),
		when(old != 0 && !wasDir && isDir, api.ENOTDIR),
		when(len(p.at(old).names) > 0, api.ENOTEMPTY),
	)
	if e != api.OK {
		return e
	}
	delete(p.at(dir).names, name)
	p.at(to).names[as] = ino
	if isDir {
		p.at(ino).parent = to
	}
	p.sweep()
	return api.OK
}

// fileError is what Write, Read and Cut say of what is no file.
func (p *plain) fileError(ino int) api.Errno {
	kind := p.at(ino).kind
	return first(when(kind == 0, api.ENOENT), when(kind == 2, api.EISDIR), when(kind != 1, api.EINVAL))
}

func (p *plain) write(ino int, off int64, data []byte) (int, api.Errno) {
	x := p.at(ino)
	e := first(p.fileError(ino), when(off < 0, api.EINVAL))
	if e != api.OK || len(data) == 0 {
		return 0, e
	}
	if off >= 65536 {
		return 0, api.EFBIG
	}
	n := 0
	for at := int(off); n < len(data) && at < 65536; at++ {
		if !x.there[at/16] && p.used() == p.room {
			break
		}
		x.there[at/16] = true
		for len(x.data) <= at {
			x.data = append(x.data, 0)
		}
		x.data[at] = data[n]
		n++
	}
	return n, when(n == 0, api.ENOSPC)
}

func (p *plain) read(ino int, off int64, n int) ([]byte, api.Errno) {
	data := p.at(ino).data
	e := first(p.fileError(ino), when(off < 0 || n < 0, api.EINVAL))
	if e != api.OK || off >= int64(len(data)) {
		return nil, e
	}
	return data[off:][:min(n, len(data)-int(off))], api.OK
}

func (p *plain) cut(ino int, size int64) api.Errno {
	x := p.at(ino)
	e := first(p.fileError(ino), when(size < 0, api.EINVAL), when(size > 65536, api.EFBIG))
	if e != api.OK {
		return e
	}
	x.data = append(bytes.Clone(x.data), make([]byte, max(0, int(size)-len(x.data)))...)[:size]
	maps.DeleteFunc(x.there, func(k int, _ bool) bool { return int64(k)*16 >= size })
	return api.OK
}

func (p *plain) hold(ino int) api.Errno {
	if p.things[ino] == nil {
		return api.ENOENT
	}
	p.at(ino).holds++
	return api.OK
}

func (p *plain) release(ino int) api.Errno {
	e := first(when(p.things[ino] == nil, api.ENOENT), when(p.at(ino).holds == 0, api.EINVAL))
	if e == api.OK {
		p.at(ino).holds--
		p.sweep()
	}
	return e
}

func (p *plain) mark(ino int, marks int) api.Errno {
	if p.things[ino] == nil {
		return api.ENOENT
	}
	p.at(ino).marks = marks
	return api.OK
}

// both is a branch and the plain one beside it: each call is made on both, and what they answer held together.
type both struct {
	t *testing.T
	b *Branch
	p *plain
}

func newBoth(t *testing.T, room int) *both {
	t.Helper()
	x := &both{t: t, b: New(room), p: newPlain(room)}
	if x.b == nil {
		t.Fatalf("New(%d): nil", room)
	}
	return x
}

// same holds two errors together, and all that can be seen of the two branches if the call has changed anything, or must not have.
func (x *both) same(e, want api.Errno, call string, args ...any) api.Errno {
	x.t.Helper()
	if e != want {
		x.t.Fatalf("%s%q: %d, want %d", call, args, e, want)
	}
	x.look(call, args)
	return e
}

// look holds all that can be seen of both together.
func (x *both) look(call string, args []any) {
	x.t.Helper()
	if x.b.Used() != x.p.used() || x.b.Inodes() != len(x.p.things) {
		x.t.Fatalf("after %s%q: %d chunks and %d inodes, want %d and %d", call, args, x.b.Used(), x.b.Inodes(), x.p.used(), len(x.p.things))
	}
	links := x.p.links()
	for ino := -1; ino <= 201; ino++ {
		if is, want := x.b.Kind(ino), x.p.at(ino).kind; is != want {
			x.t.Fatalf("after %s%q: the kind of %d is %d, want %d", call, args, ino, is, want)
		}
		if is, want := x.b.Parent(ino), x.p.at(ino).parent; is != want {
			x.t.Fatalf("after %s%q: the parent of %d is %d, want %d", call, args, ino, is, want)
		}
		if is, want := x.b.Marks(ino), x.p.at(ino).marks; is != want {
			x.t.Fatalf("after %s%q: the marks of %d are %d, want %d", call, args, ino, is, want)
		}
		x.lookInto(ino, links[ino], call, args)
	}
}

// lookInto holds what one number has in it together.
func (x *both) lookInto(ino, links int, call string, args []any) {
	x.t.Helper()
	want := x.p.things[ino]
	s, e := x.b.Stat(ino)
	if want == nil {
		if e != api.ENOENT || s != (api.Stat{}) {
			x.t.Fatalf("after %s%q: Stat(%d): %v, %d, and there is none", call, args, ino, s, e)
		}
		return
	}
	size := len(want.data) + len(want.names) + len(want.target)
	if e != api.OK || s != (api.Stat{Kind: want.kind, Size: size, Link: links}) {
		x.t.Fatalf("after %s%q: Stat(%d): %v, %d, want size %d and %d links", call, args, ino, s, e, size, links)
	}
	target, e := x.b.Target(ino)
	if target != want.target || e != when(want.kind != 3, api.EINVAL) {
		x.t.Fatalf("after %s%q: Target(%d): %q, %d, want %q", call, args, ino, target, e, want.target)
	}
	all, e := x.b.All(ino)
	if !slices.Equal(all, want.entries()) || e != when(want.kind != 2, api.ENOTDIR) {
		x.t.Fatalf("after %s%q: All(%d): %v, %d, want %v", call, args, ino, all, e, want.entries())
	}
	data, e := x.b.Read(ino, 0, 70000)
	if !bytes.Equal(data, want.data) || e != x.p.fileError(ino) {
		x.t.Fatalf("after %s%q: Read(%d): %q, %d, want %q", call, args, ino, data, e, want.data)
	}
}

// entries are a directory's names in order.
func (x *thing) entries() []api.Entry {
	var all []api.Entry
	for _, name := range slices.Sorted(maps.Keys(x.names)) {
		all = append(all, api.Entry{Name: name, Ino: x.names[name]})
	}
	return all
}

func (x *both) make(dir int, name string, kind int, target string) (int, api.Errno) {
	x.t.Helper()
	ino, e := x.b.Make(dir, name, kind, target)
	n, f := x.p.make(dir, name, kind, target)
	if ino != n {
		x.t.Fatalf("Make(%d, %q, %d, %q): %d, %d, want %d, %d", dir, name, kind, target, ino, e, n, f)
	}
	return ino, x.same(e, f, "Make", dir, name, kind, target)
}

func (x *both) get(dir int, name string) (int, api.Errno) {
	x.t.Helper()
	ino, e := x.b.Get(dir, name)
	n, f := x.p.get(dir, name)
	if ino != n || e != f {
		x.t.Fatalf("Get(%d, %q): %d, %d, want %d, %d", dir, name, ino, e, n, f)
	}
	return ino, e
}

func (x *both) link(dir int, name string, ino int) api.Errno {
	x.t.Helper()
	return x.same(x.b.Link(dir, name, ino), x.p.link(dir, name, ino), "Link", dir, name, ino)
}

func (x *both) unlink(dir int, name string) api.Errno {
	x.t.Helper()
	return x.same(x.b.Unlink(dir, name), x.p.unlink(dir, name), "Unlink", dir, name)
}

func (x *both) rmdir(dir int, name string) api.Errno {
	x.t.Helper()
	return x.same(x.b.Rmdir(dir, name), x.p.rmdir(dir, name), "Rmdir", dir, name)
}

func (x *both) rename(dir int, name string, to int, as string) api.Errno {
	x.t.Helper()
	return x.same(x.b.Rename(dir, name, to, as), x.p.rename(dir, name, to, as), "Rename", dir, name, to, as)
}

func (x *both) write(ino int, off int64, data []byte) (int, api.Errno) {
	x.t.Helper()
	had := bytes.Clone(data)
	n, e := x.b.Write(ino, off, data)
	m, f := x.p.write(ino, off, had)
	if n != m || !bytes.Equal(data, had) {
		x.t.Fatalf("Write(%d, %d, %q): %d, %d, want %d, %d, and the bytes as they were", ino, off, data, n, e, m, f)
	}
	// What is kept must not be the caller's memory (R3).
	for i := range data {
		data[i] ^= 0xff
	}
	return n, x.same(e, f, "Write", ino, off, had)
}

func (x *both) read(ino int, off int64, n int) ([]byte, api.Errno) {
	x.t.Helper()
	data, e := x.b.Read(ino, off, n)
	want, f := x.p.read(ino, off, n)
	if !bytes.Equal(data, want) || e != f {
		x.t.Fatalf("Read(%d, %d, %d): %q, %d, want %q, %d", ino, off, n, data, e, want, f)
	}
	return data, e
}

func (x *both) cut(ino int, size int64) api.Errno {
	x.t.Helper()
	return x.same(x.b.Cut(ino, size), x.p.cut(ino, size), "Cut", ino, size)
}

func (x *both) hold(ino int) api.Errno {
	x.t.Helper()
	return x.same(x.b.Hold(ino), x.p.hold(ino), "Hold", ino)
}

func (x *both) release(ino int) api.Errno {
	x.t.Helper()
	return x.same(x.b.Release(ino), x.p.release(ino), "Release", ino)
}

func (x *both) mark(ino, marks int) api.Errno {
	x.t.Helper()
	return x.same(x.b.Mark(ino, marks), x.p.mark(ino, marks), "Mark", ino, marks)
}
