package plan

import (
	"math"
	"slices"
	"testing"

	"veneer/api"
)

const (
	read  = false
	write = true
)

// TestOrder: P15.1: one want for each number, of its least depth, to write if any is, by depth and then by number.
func TestOrder(t *testing.T) {
	for _, x := range []struct {
		what    string
		l, want []Want
	}{
		{"none", nil, nil},
		{"none, in a list of its own", []Want{}, nil},
		{"one", []Want{{3, 4, read}}, []Want{{3, 4, read}}},
		{"one to write", []Want{{3, 4, write}}, []Want{{3, 4, write}}},
		{"the zero value", []Want{{}}, []Want{{}}},
		{"the chapter's example", []Want{{2, 5, read}, {0, 9, write}, {2, 3, read}, {1, 5, write}}, []Want{{0, 9, write}, {1, 5, write}, {2, 3, read}}},
		{"in order already", []Want{{0, 9, read}, {1, 2, read}, {2, 1, write}}, []Want{{0, 9, read}, {1, 2, read}, {2, 1, write}}},
		{"the other way round", []Want{{2, 1, write}, {1, 2, read}, {0, 9, read}}, []Want{{0, 9, read}, {1, 2, read}, {2, 1, write}}},
		{"depth goes ahead of number", []Want{{2, 1, read}, {1, 2, read}}, []Want{{1, 2, read}, {2, 1, read}}},
		{"equal depth", []Want{{4, 7, read}, {4, 3, read}, {4, 5, write}, {4, 1, read}}, []Want{{4, 1, read}, {4, 3, read}, {4, 5, write}, {4, 7, read}}},
		{"to write makes no order", []Want{{4, 7, read}, {4, 8, write}, {4, 9, read}}, []Want{{4, 7, read}, {4, 8, write}, {4, 9, read}}},
		{"again, less deep", []Want{{3, 4, read}, {1, 4, read}}, []Want{{1, 4, read}}},
		{"again, deeper", []Want{{1, 4, read}, {3, 4, read}}, []Want{{1, 4, read}}},
		{"again, as deep", []Want{{1, 4, read}, {1, 4, read}}, []Want{{1, 4, read}}},
		{"again, the less deep one to write", []Want{{3, 4, read}, {1, 4, write}}, []Want{{1, 4, write}}},
		{"again, the deeper one to write", []Want{{3, 4, write}, {1, 4, read}}, []Want{{1, 4, write}}},
		{"again, as deep and to write", []Want{{1, 4, read}, {1, 4, write}, {1, 4, read}}, []Want{{1, 4, write}}},
		{"again and again", []Want{{5, 4, read}, {2, 4, read}, {4, 4, write}, {3, 4, read}, {2, 4, read}}, []Want{{2, 4, write}}},
		{"again, with others between", []Want{{3, 4, write}, {2, 6, read}, {1, 4, read}, {4, 6, read}, {0, 8, read}}, []Want{{0, 8, read}, {1, 4, write}, {2, 6, read}}},
		{"the least depth sets the place", []Want{{9, 1, read}, {5, 2, read}, {0, 1, read}}, []Want{{0, 1, read}, {5, 2, read}}},
		{"only its own number is to write", []Want{{1, 1, read}, {1, 2, write}, {2, 1, read}, {2, 3, read}}, []Want{{1, 1, read}, {1, 2, write}, {2, 3, read}}},
		{"depths below 0", []Want{{0, 1, read}, {-1, 2, read}, {-5, 3, write}, {-1, 1, read}}, []Want{{-5, 3, write}, {-1, 1, read}, {-1, 2, read}}},
		{"numbers below 0", []Want{{1, 0, read}, {1, 2, read}, {1, -2, read}, {1, -3, write}, {0, -2, read}}, []Want{{0, -2, read}, {1, -3, write}, {1, 0, read}, {1, 2, read}}},
		{"the ends of int", []Want{{math.MaxInt, math.MinInt, read}, {math.MinInt, math.MaxInt, read}, {math.MinInt, math.MinInt, write}, {math.MaxInt, 0, read}, {math.MinInt, 1, read}}, []Want{{math.MinInt, math.MinInt, write}, {math.MinInt, 1, read}, {math.MinInt, math.MaxInt, read}, {math.MaxInt, 0, read}}},
	} {
		if got := order(t, x.l); !slices.Equal(got, x.want) {
			t.Errorf("%s: Order(%v): %v, want %v", x.what, x.l, got, x.want)
		}
	}
}

// TestOrderMany: P15.1: many wants, of many numbers and of one.
func TestOrderMany(t *testing.T) {
	const many = 3000
	var l, want, same []Want
	for i := range many {
		n := i * 7 % many
		l = append(l, Want{n / 3, many - n, n%5 == 0})
		same = append(same, Want{many - i, 5, i == many/2})
	}
	for deep := range many / 3 {
		for n := deep*3 + 2; n >= deep*3; n-- {
			want = append(want, Want{deep, many - n, n%5 == 0})
		}
	}
	if got := order(t, l); !slices.Equal(got, want) {
		t.Errorf("%d wants: %d, or in another order", many, len(got))
	}
	if got := order(t, same); !slices.Equal(got, []Want{{1, 5, write}}) {
		t.Errorf("one number: %v", got)
	}
}

// TestOrderOwn: P15.1: what is returned and what was given have nothing in common, also where it was in order already.
func TestOrderOwn(t *testing.T) {
	l := []Want{{0, 1, read}, {1, 2, write}}
	got := Order(l)
	l[0], l[1] = Want{5, 5, write}, Want{6, 6, read}
	if want := []Want{{0, 1, read}, {1, 2, write}}; !slices.Equal(got, want) {
		t.Errorf("changed with what was given: %v", got)
	}
	again := Order(l)
	got[0] = Want{7, 7, read}
	if want := []Want{{5, 5, write}, {6, 6, read}}; !slices.Equal(again, want) || !slices.Equal(l, want) {
		t.Errorf("changed with what was returned: %v, %v", again, l)
	}
}

// TestClash: P15.1: a number in both, to write in one of them at least.
func TestClash(t *testing.T) {
	for _, x := range []struct {
		what string
		a, b []Want
		want bool
	}{
		{"both empty", nil, nil, false},
		{"one empty", []Want{{0, 1, write}}, nil, false},
		{"no number in common", []Want{{0, 1, write}, {1, 2, write}}, []Want{{0, 3, write}, {1, 4, write}}, false},
		{"a depth in common alone", []Want{{3, 1, write}}, []Want{{3, 2, write}}, false},
		{"both only read it", []Want{{0, 1, read}, {1, 2, read}}, []Want{{0, 1, read}, {1, 3, read}}, false},
		{"one writes it", []Want{{0, 1, write}}, []Want{{0, 1, read}}, true},
		{"both write it", []Want{{0, 1, write}}, []Want{{0, 1, write}}, true},
		{"at another depth", []Want{{0, 1, write}}, []Want{{5, 1, read}}, true},
		{"others are written", []Want{{0, 1, read}, {1, 2, write}}, []Want{{0, 1, read}, {1, 3, write}}, false},
		{"the last of each", []Want{{0, 1, read}, {1, 2, read}, {2, 4, read}}, []Want{{0, 1, read}, {1, 3, read}, {2, 4, write}}, true},
		{"the first of one, the last of the other", []Want{{0, 4, write}, {1, 2, read}}, []Want{{0, 1, read}, {1, 2, read}, {2, 4, read}}, true},
		{"several times, the first to write", []Want{{0, 1, write}, {1, 1, read}, {2, 1, read}}, []Want{{0, 1, read}}, true},
		{"several times, the last to write", []Want{{0, 1, read}, {1, 1, read}, {2, 1, write}}, []Want{{0, 1, read}}, true},
		{"several times on both sides", []Want{{0, 1, read}, {1, 1, read}}, []Want{{4, 1, read}, {3, 1, write}, {3, 1, read}}, true},
		{"several times, none to write", []Want{{0, 1, read}, {1, 1, read}}, []Want{{4, 1, read}, {3, 1, read}}, false},
		{"several times to write, but on one side alone", []Want{{0, 1, read}, {1, 1, write}}, []Want{{4, 2, read}, {3, 2, write}}, false},
		{"number 0", []Want{{0, 0, read}}, []Want{{0, 0, write}}, true},
		{"number 0 and none", []Want{{0, 1, write}}, []Want{{0, 0, write}}, false},
		{"numbers below 0", []Want{{0, -3, write}}, []Want{{0, -3, read}}, true},
		{"below 0 and above", []Want{{0, -3, write}}, []Want{{0, 3, write}}, false},
		{"depths below 0", []Want{{-2, 3, write}}, []Want{{-1, 3, read}}, true},
	} {
		if got := clash(t, x.a, x.b); got != x.want {
			t.Errorf("%s: Clash(%v, %v): %t, want %t", x.what, x.a, x.b, got, x.want)
		}
	}
}

// TestClashSelf: P15.1: a row bars itself where it writes.
func TestClashSelf(t *testing.T) {
	l := []Want{{0, 1, read}, {1, 2, read}}
	if Clash(l, l) {
		t.Errorf("%v only reads", l)
	}
	l[1].Write = true
	if !Clash(l, l) {
		t.Errorf("%v writes", l)
	}
}

// kinds are the calls' kinds by the chapter's words, of OpOpen without FlagCreate.
var kinds = [21]int{
	api.OpOpen: 1, api.OpClose: 0, api.OpRead: 0, api.OpWrite: 0, api.OpPread: 0,
	api.OpPwrite: 0, api.OpSeek: 0, api.OpCut: 1, api.OpStat: 1, api.OpLstat: 1,
	api.OpMkdir: 2, api.OpRmdir: 2, api.OpUnlink: 2, api.OpLink: 2, api.OpSymlink: 2,
	api.OpReadlink: 1, api.OpRename: 2, api.OpOpendir: 1, api.OpReaddir: 0, api.OpRewind: 1,
}

// TestKind: P15.2: every call, whatever else it says, and numbers that are no call's.
func TestKind(t *testing.T) {
	for op := 1; op <= 20; op++ {
		for _, c := range []api.Call{{Op: op}, {Op: op, A: "a/b", B: "c"}, {Op: op, Fd: 3, N: 5, Off: 7}, {Op: op, Fd: -1, Off: -1}} {
			if got := kind(t, c); got != kinds[op] {
				t.Errorf("Kind(%v): %d, want %d", c, got, kinds[op])
			}
		}
	}
	for _, op := range []int{0, -1, -2, -7, -11, -17, 21, 22, 99, 256 + api.OpMkdir, 1<<32 + api.OpStat, math.MinInt, math.MaxInt} {
		for _, flag := range []int{0, api.FlagCreate, api.FlagWrite, -1} {
			if got := kind(t, api.Call{Op: op, Flag: flag}); got != 0 {
				t.Errorf("Kind of %d, which is no call: %d", op, got)
			}
		}
	}
}

// TestKindFlags: P15.2: FlagCreate makes an OpOpen changing, whatever flags stand beside it, and nothing else does.
func TestKindFlags(t *testing.T) {
	for flag := range 256 {
		want := 1
		if flag/api.FlagCreate%2 == 1 {
			want = 2
		}
		if got := kind(t, api.Call{Op: api.OpOpen, Flag: flag}); got != want {
			t.Errorf("OpOpen with flags %d: %d, want %d", flag, got, want)
		}
		for op := 2; op <= 20; op++ {
			if got := kind(t, api.Call{Op: op, Flag: flag}); got != kinds[op] {
				t.Errorf("call %d with flags %d: %d, want %d", op, flag, got, kinds[op])
			}
		}
	}
	for _, x := range []struct{ flag, want int }{{-1, 2}, {math.MaxInt, 2}, {math.MinInt, 1}, {-1 - api.FlagCreate, 1}} {
		if got := kind(t, api.Call{Op: api.OpOpen, Flag: x.flag}); got != x.want {
			t.Errorf("OpOpen with flags %d: %d, want %d", x.flag, got, x.want)
		}
	}
}

// modes tells wants as r and w, and holds their depths and numbers to those that are wanted.
func modes(t *testing.T, l []Want, numbers ...int) string {
	t.Helper()
	text := ""
	for i, w := range l {
		if i >= len(numbers) || w.Ino != numbers[i] || w.Deep != i {
			t.Errorf("%v: want the numbers %v, by their depths", l, numbers)
			break
		}
		text += map[bool]string{read: "r", write: "w"}[w.Write]
	}
	return text
}

// asked is what a call wants of three directories and a file.
type asked struct {
	c    api.Call
	want string
}

// each is what every call wants, and OpOpen with its flags.
var each = []asked{
	{api.Call{Op: api.OpOpen}, "rrrr"},
	{api.Call{Op: api.OpOpen, Flag: api.FlagRead}, "rrrr"},
	{api.Call{Op: api.OpOpen, Flag: api.FlagWrite}, "rrrw"},
	{api.Call{Op: api.OpOpen, Flag: api.FlagRead | api.FlagWrite}, "rrrw"},
	{api.Call{Op: api.OpOpen, Flag: api.FlagCreate}, "rrwr"},
	{api.Call{Op: api.OpOpen, Flag: api.FlagRead | api.FlagCreate}, "rrwr"},
	{api.Call{Op: api.OpOpen, Flag: api.FlagWrite | api.FlagCreate}, "rrww"},
	{api.Call{Op: api.OpOpen, Flag: api.FlagExcl}, "rrrr"},
	{api.Call{Op: api.OpOpen, Flag: api.FlagCut}, "rrrr"},
	{api.Call{Op: api.OpOpen, Flag: api.FlagAppend}, "rrrr"},
	{api.Call{Op: api.OpOpen, Flag: 63}, "rrww"},
	{api.Call{Op: api.OpOpen, Flag: 64}, "rrrr"},
	{api.Call{Op: api.OpOpen, Flag: -1}, "rrww"},
	{api.Call{Op: api.OpClose}, "rrrr"},
	{api.Call{Op: api.OpRead}, "rrrr"},
	{api.Call{Op: api.OpWrite}, "rrrw"},
	{api.Call{Op: api.OpPread}, "rrrr"},
	{api.Call{Op: api.OpPwrite}, "rrrw"},
	{api.Call{Op: api.OpSeek}, "rrrr"},
	{api.Call{Op: api.OpCut}, "rrrw"},
	{api.Call{Op: api.OpStat}, "rrrr"},
	{api.Call{Op: api.OpLstat}, "rrrr"},
	{api.Call{Op: api.OpMkdir}, "rrwr"},
	{api.Call{Op: api.OpRmdir}, "rrwr"},
	{api.Call{Op: api.OpUnlink}, "rrww"},
	{api.Call{Op: api.OpLink}, "rrww"},
	{api.Call{Op: api.OpSymlink}, "rrwr"},
	{api.Call{Op: api.OpReadlink}, "rrrr"},
	{api.Call{Op: api.OpRename}, "wwww"},
	{api.Call{Op: api.OpOpendir}, "rrrr"},
	{api.Call{Op: api.OpReaddir}, "rrrr"},
	{api.Call{Op: api.OpRewind}, "rrrr"},
	{api.Call{Op: api.OpRead, Flag: api.FlagWrite | api.FlagCreate}, "rrrr"},
	{api.Call{Op: api.OpStat, Flag: api.FlagWrite | api.FlagCreate}, "rrrr"},
	{api.Call{Op: api.OpMkdir, Flag: api.FlagWrite | api.FlagCreate}, "rrwr"},
	{api.Call{}, "rrrr"},
	{api.Call{Flag: api.FlagWrite | api.FlagCreate}, "rrrr"},
	{api.Call{Op: 21, Flag: api.FlagWrite | api.FlagCreate}, "rrrr"},
	{api.Call{Op: -api.OpRename}, "rrrr"},
	{api.Call{Op: math.MaxInt}, "rrrr"},
	{api.Call{Op: math.MinInt}, "rrrr"},
}

// TestWants: P15.3: what every call wants, with three directories, with one and with none, with a file and without.
func TestWants(t *testing.T) {
	for _, x := range each {
		dirs, file := x.want[:3], x.want[3:]
		if got := modes(t, wants(t, x.c, []int{1, 6, 4}, 9), 1, 6, 4, 9); got != x.want {
			t.Errorf("%v, three directories and a file: %s, want %s", x.c, got, x.want)
		}
		if got := modes(t, wants(t, x.c, []int{1, 6, 4}, 0), 1, 6, 4); got != dirs {
			t.Errorf("%v, three directories: %s, want %s", x.c, got, dirs)
		}
		if got := modes(t, wants(t, x.c, []int{1}, 9), 1, 9); got != dirs[2:]+file {
			t.Errorf("%v, a directory and a file: %s, want %s", x.c, got, dirs[2:]+file)
		}
		if got := modes(t, wants(t, x.c, []int{1}, 0), 1); got != dirs[2:] {
			t.Errorf("%v, a directory: %s, want %s", x.c, got, dirs[2:])
		}
		if got := modes(t, wants(t, x.c, nil, 9), 9); got != file {
			t.Errorf("%v, a file: %s, want %s", x.c, got, file)
		}
		if got := wants(t, x.c, nil, 0); len(got) != 0 {
			t.Errorf("%v, nothing: %v", x.c, got)
		}
	}
}

// TestWantsAgain: P15.3: the same number twice among the directories, or a file that is one of them: one want, of the least depth, to write if any is.
func TestWantsAgain(t *testing.T) {
	for _, x := range []struct {
		what string
		op   int
		at   []int
		file int
		want []Want
	}{
		{"the root is the last one", api.OpMkdir, []int{1, 4, 1}, 0, []Want{{0, 1, write}, {1, 4, read}}},
		{"the root is the last one, read", api.OpStat, []int{1, 4, 1}, 0, []Want{{0, 1, read}, {1, 4, read}}},
		{"the last one stands ahead of the last too", api.OpRmdir, []int{1, 4, 4}, 0, []Want{{0, 1, read}, {1, 4, write}}},
		{"twice ahead of the last one", api.OpMkdir, []int{1, 4, 1, 4, 6}, 0, []Want{{0, 1, read}, {1, 4, read}, {4, 6, write}}},
		{"a name for all", api.OpRename, []int{1, 4, 1, 6}, 0, []Want{{0, 1, write}, {1, 4, write}, {3, 6, write}}},
		{"the file is a directory, written", api.OpWrite, []int{1, 4, 6}, 4, []Want{{0, 1, read}, {1, 4, write}, {2, 6, read}}},
		{"the file is a directory, read", api.OpRead, []int{1, 4, 6}, 4, []Want{{0, 1, read}, {1, 4, read}, {2, 6, read}}},
		{"the file is the last directory, written", api.OpMkdir, []int{1, 4, 6}, 6, []Want{{0, 1, read}, {1, 4, read}, {2, 6, write}}},
		{"the file is the root", api.OpUnlink, []int{1, 4}, 1, []Want{{0, 1, write}, {1, 4, write}}},
		{"the file's depth is the number of directories", api.OpStat, []int{1, 1, 1}, 7, []Want{{0, 1, read}, {3, 7, read}}},
	} {
		if got := wants(t, api.Call{Op: x.op}, x.at, x.file); !slices.Equal(got, x.want) {
			t.Errorf("%s: Wants(%d, %v, %d): %v, want %v", x.what, x.op, x.at, x.file, got, x.want)
		}
	}
}

// TestWantsNumbers: P15.3: any numbers: only a file of 0 is none.
func TestWantsNumbers(t *testing.T) {
	c := api.Call{Op: api.OpUnlink}
	if got, want := wants(t, c, []int{0, -1}, 0), []Want{{0, 0, read}, {1, -1, write}}; !slices.Equal(got, want) {
		t.Errorf("directories 0 and -1: %v, want %v", got, want)
	}
	if got, want := wants(t, c, []int{1}, -1), []Want{{0, 1, write}, {1, -1, write}}; !slices.Equal(got, want) {
		t.Errorf("file -1: %v, want %v", got, want)
	}
	if got, want := wants(t, c, []int{math.MaxInt, math.MinInt}, math.MaxInt), []Want{{0, math.MaxInt, write}, {1, math.MinInt, write}}; !slices.Equal(got, want) {
		t.Errorf("the ends of int: %v, want %v", got, want)
	}
}

// TestWantsLong: P15.3: a long way down.
func TestWantsLong(t *testing.T) {
	var at []int
	for i := range 2000 {
		at = append(at, 5000-i)
	}
	for _, op := range []int{api.OpStat, api.OpMkdir, api.OpRename} {
		got := wants(t, api.Call{Op: op}, at, 7)
		if len(got) != 2001 || got[0].Ino != 5000 || got[1999].Ino != 3001 || got[2000] != (Want{2000, 7, op == api.OpRename}) {
			t.Errorf("call %d: %d wants", op, len(got))
		}
	}
}
