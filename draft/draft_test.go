package draft

import (
	"strings"
	"testing"

	"veneer/api"
	"veneer/branch"
	"veneer/merge"
)

// made is an upper branch with two directories, and a view of a lower branch with a file.
func made(t *testing.T, room int, data string) (*branch.Branch, *merge.View, api.Node) {
	t.Helper()
	upper, lower := branch.New(room), branch.New(api.MaxRoom)
	upper.Make(1, "up", api.Dir, "")
	upper.Make(1, "work", api.Dir, "")
	f, _ := lower.Make(1, "f", api.File, "")
	if n, e := lower.Write(f, 0, []byte(data)); n != len(data) || e != api.OK {
		t.Fatalf("%d bytes, error %d", n, e)
	}
	return upper, merge.New(upper, lower, 2, 1), api.Node{L: f}
}

// TestSteps: a step a chunk that has something, and one more; then the draft gets its place, and is the file.
func TestSteps(t *testing.T) {
	zeros := strings.Repeat("\x00", 50)
	for data, chunks := range map[string]int{"": 0, "x": 1, zeros: 0, strings.Repeat("x", 50): 4, "a" + zeros + "b" + zeros: 2} {
		upper, view, f := made(t, chunks, data)
		d, e := New(upper, 3, "it", view, f)
		if e != api.OK || upper.Kind(d.Ino()) != api.File {
			t.Fatalf("New: error %d", e)
		}
		for range chunks {
			if whole, e := d.Step(); whole || e != api.OK {
				t.Errorf("%q: Step: %t, error %d", data, whole, e)
			}
		}
		for range 2 {
			if whole, e := d.Step(); !whole || e != api.OK {
				t.Errorf("%q: the last Step: %t, error %d", data, whole, e)
			}
		}
		if e := d.Move(2, "f"); e != api.OK {
			t.Errorf("Move: error %d", e)
		}
		got, _ := upper.Read(d.Ino(), 0, 999)
		if ino, _ := upper.Get(2, "f"); ino != d.Ino() || string(got) != data || upper.Used() != chunks {
			t.Errorf("it has %q, want %q; %d chunks used", got, data, upper.Used())
		}
		if left, _ := upper.All(3); len(left) != 0 {
			t.Errorf("%v left", left)
		}
	}
}

// TestErrors: a name that is there, what is no file, and no room: then nothing is left of what is dropped.
func TestErrors(t *testing.T) {
	upper, view, f := made(t, 1, strings.Repeat("x", 20))
	d, e := New(upper, 3, "it", view, f)
	if e != api.OK {
		t.Fatalf("New: error %d", e)
	}
	if again, e := New(upper, 3, "it", view, f); again != nil || e != api.EEXIST {
		t.Errorf("New: error %d", e)
	}
	for i, want := range []api.Errno{api.OK, api.ENOSPC} {
		if whole, e := d.Step(); whole || e != want {
			t.Errorf("Step %d: %t, error %d", i, whole, e)
		}
	}
	if e := d.Move(9, "f"); e != api.ENOENT {
		t.Errorf("Move: error %d", e)
	}
	d.Drop()
	d.Drop()
	if upper.Used() != 0 || upper.Inodes() != 3 {
		t.Errorf("%d chunks, %d inodes", upper.Used(), upper.Inodes())
	}
	for node, want := range map[api.Node]api.Errno{{}: api.ENOENT, {L: 1}: api.EISDIR, {L: 7}: api.ENOENT} {
		upper.Make(2, "some", api.File, "") // so that the root has a size
		d, _ := New(upper, 3, "it", view, node)
		if whole, e := d.Step(); whole || e != want {
			t.Errorf("%v: Step: %t, error %d; want %d", node, whole, e, want)
		}
		d.Drop()
	}
}
