package journal

import (
	"bytes"
	"fmt"
	"math"
	"math/rand"
	"slices"
	"strings"
	"testing"

	"guichet/api"
	"guichet/disk"
	"guichet/frame"
)

const (
	nineteen = "1234567890123456789"
	// A record's frame has so many bytes, and one more for each digit of its account.
	leastFrame = 42
	mostFrame  = leastFrame + len(nineteen)
)

// rec answers the n-th of some right records, all of them different.
func rec(n int) api.Rec {
	return api.Rec{
		Kind: n%(api.RecKinds-1) + 1, Key: api.Key{Term: uint16(n * 5), Stan: uint32(n * 3)}, Pan: nineteen[:n*7%20], Amount: int64(n),
		Notes: api.Notes{n % 9, 1, 0, n % 4}, Rej: api.Notes{0, n % 3}, Loaded: api.Notes{n % 7, n % 11},
	}
}

// recs answers the records from one to ahead of another one.
func recs(from, to int) []api.Rec {
	var out []api.Rec
	for n := from; n < to; n++ {
		out = append(out, rec(n))
	}
	return out
}

// sized answers records, told by n, whose frames have just so many bytes; false, if there are none.
func sized(n, length int) ([]api.Rec, bool) {
	count := length / leastFrame
	if length < count*leastFrame || length > count*mostFrame {
		return nil, false
	}
	out := make([]api.Rec, count)
	digits := length - count*leastFrame
	for i := range out {
		out[i] = rec(n + i)
		out[i].Pan = nineteen[:min(digits, len(nineteen))]
		digits -= len(out[i].Pan)
	}
	return out, true
}

// size answers how many bytes the frames of records have.
func size(t *testing.T, l []api.Rec) int {
	t.Helper()
	n := 0
	for _, r := range l {
		b, e := frame.Put(r)
		if e != api.OK {
			t.Fatalf("Put(%v): %v", r, e)
		}
		n += len(b)
	}
	return n
}

// promised answers how many bytes of frames always have room on a disk of n sectors.
func promised(n int) int {
	return 16*n - 256
}

// open opens a disk, and asks that nothing is wrong with what is answered.
func open(t *testing.T, d *disk.Disk) (*Log, []api.Rec) {
	t.Helper()
	l, r, e := Open(d)
	if e != api.OK || l == nil || l.Len() != len(r) || l.Free() < 0 {
		t.Fatalf("Open: %v, %v, %d records", l, e, len(r))
	}
	return l, r
}

// tells asks that a journal and its disk, opened anew, have just these records: as it is, and behind a crash.
func tells(t *testing.T, what string, l *Log, d *disk.Disk, want []api.Rec) {
	t.Helper()
	crashed := d.Clone()
	crashed.Reopen(nil, 0)
	for _, d := range []*disk.Disk{d.Clone(), d.Clone(), crashed} {
		again, r := open(t, d)
		if !slices.Equal(r, want) {
			t.Fatalf("%s: opened: %d records %v; want %d", what, len(r), r, len(want))
		}
		if again.Free() != l.Free() {
			t.Fatalf("%s: opened: room for %d, where there was for %d", what, again.Free(), l.Free())
		}
	}
	if l.Len() != len(want) {
		t.Fatalf("%s: Len %d; want %d", what, l.Len(), len(want))
	}
}

// made answers a journal of these records on a new disk.
func made(t *testing.T, sectors int, r []api.Rec) (*Log, *disk.Disk) {
	t.Helper()
	d := disk.New(sectors)
	l, was := open(t, d)
	if len(was) != 0 {
		t.Fatalf("new: %v", was)
	}
	if e := l.Add(r...); e != api.OK {
		t.Fatalf("Add of %d records: %v", len(r), e)
	}
	return l, d
}

// bytesOf answers all that a disk tells.
func bytesOf(d *disk.Disk) []byte {
	var out []byte
	for n := range d.Sectors() {
		b, _ := d.Read(n)
		out = append(out, b...)
	}
	return out
}

// wrongs answers records that aren't right.
func wrongs() []api.Rec {
	change := func(c func(r *api.Rec)) api.Rec {
		r := rec(3)
		c(&r)
		return r
	}
	return []api.Rec{
		{},
		change(func(r *api.Rec) { r.Kind = 0 }),
		change(func(r *api.Rec) { r.Kind = api.RecKinds }),
		change(func(r *api.Rec) { r.Kind = -1 }),
		change(func(r *api.Rec) { r.Pan = nineteen + "0" }),
		change(func(r *api.Rec) { r.Pan = "12a4" }),
		change(func(r *api.Rec) { r.Amount = -1 }),
		change(func(r *api.Rec) { r.Amount = api.MaxAmount + 1 }),
		change(func(r *api.Rec) { r.Notes[3] = api.MaxCount + 1 }),
		change(func(r *api.Rec) { r.Rej[0] = -1 }),
		change(func(r *api.Rec) { r.Loaded[1] = math.MaxInt }),
	}
}

// P5.1
func TestExample(t *testing.T) {
	l, d := made(t, 8, recs(1, 2))
	tells(t, "the chapter's example", l, d, recs(1, 2))
}

// P5.1
func TestOpenAsksForEightSectors(t *testing.T) {
	for _, n := range []int{0, 1, 2, 6, 7, -1} {
		for _, down := range []bool{false, true} {
			d := disk.New(n)
			if down {
				d.Cut(0)
			}
			if l, r, e := Open(d); l != nil || len(r) != 0 || e != api.ErrFull {
				t.Errorf("%d sectors, down %v: %v, %v, %v", n, down, l, r, e)
			}
		}
	}
	for _, d := range []*disk.Disk{nil, {}} {
		if l, r, e := Open(d); l != nil || len(r) != 0 || e != api.ErrFull {
			t.Errorf("no disk: %v, %v, %v", l, r, e)
		}
	}
	for _, n := range []int{8, 9, 10, 100, api.MaxSectors, api.MaxSectors + 1} {
		if l, r, e := Open(disk.New(n)); l == nil || len(r) != 0 || e != api.OK || l.Len() != 0 {
			t.Errorf("%d sectors: %v, %v, %v", n, l, r, e)
		}
	}
}

// P5.1
func TestOpenWhileDown(t *testing.T) {
	for _, n := range []int{0, 3} {
		_, d := made(t, 30, recs(0, n))
		d.Cut(0)
		if l, r, e := Open(d); l != nil || len(r) != 0 || e != api.ErrDown {
			t.Errorf("down: %v, %v, %v", l, r, e)
		}
		d.Reopen(nil, 0)
		if _, r := open(t, d); !slices.Equal(r, recs(0, n)) {
			t.Errorf("the power is back: %v", r)
		}
	}
}

// P5.1: opening is no change, even where the next write or sync is cut.
func TestOpenAgainTellsTheSame(t *testing.T) {
	for _, n := range []int{0, 1, 2, 7} {
		_, d := made(t, 40, recs(0, n))
		before := bytesOf(d)
		for range 3 {
			d.Cut(1)
			if _, r := open(t, d); !slices.Equal(r, recs(0, n)) || d.Down() || !bytes.Equal(bytesOf(d), before) {
				t.Fatalf("%d records: %v, down %v", n, r, d.Down())
			}
			d.Reopen([]bool{true, true, true}, api.Sector)
		}
	}
}

// P5.1, P5.3
func TestAddLaysBehindAllOthers(t *testing.T) {
	for _, step := range []int{1, 2, 3, 5, 20} {
		l, d := made(t, 200, nil)
		for n := 0; n < 60; n += step {
			if e := l.Add(recs(n, n+step)...); e != api.OK {
				t.Fatalf("Add at %d: %v", n, e)
			}
			tells(t, fmt.Sprintf("%d behind %d", step, n), l, d, recs(0, n+step))
		}
	}
}

// P5.1: the same, each time by a journal that was opened anew.
func TestAddBehindOpen(t *testing.T) {
	d := disk.New(200)
	for n := range 40 {
		l, r := open(t, d)
		if !slices.Equal(r, recs(0, n)) {
			t.Fatalf("at %d: %v", n, r)
		}
		if e := l.Add(rec(n)); e != api.OK {
			t.Fatalf("Add of %d: %v", n, e)
		}
		tells(t, fmt.Sprint("opened, then one more than ", n), l, d, recs(0, n+1))
	}
}

// P5.1
func TestNoRecordsAtAll(t *testing.T) {
	for _, n := range []int{0, 1, 5} {
		l, d := made(t, 40, recs(0, n))
		free := l.Free()
		for _, none := range [][]api.Rec{nil, {}} {
			if e := l.Add(none...); e != api.OK || l.Free() != free {
				t.Errorf("Add of none: %v, room for %d of %d", e, l.Free(), free)
			}
			tells(t, "Add of none", l, d, recs(0, n))
		}
		if e := l.Add(); e != api.OK {
			t.Errorf("Add(): %v", e)
		}
		tells(t, "Add()", l, d, recs(0, n))
		for _, none := range [][]api.Rec{nil, {}, nil} {
			if e := l.Replace(none); e != api.OK || l.Free() < promised(40) {
				t.Errorf("Replace by none: %v, room for %d", e, l.Free())
			}
			tells(t, "Replace by none", l, d, nil)
		}
		if e := l.Add(rec(77)); e != api.OK {
			t.Errorf("Add behind none: %v", e)
		}
		tells(t, "behind none", l, d, recs(77, 78))
	}
}

// P5.1: each kind of record, each length of an account, each part at its limits comes back as it was.
func TestEveryRightRecordComesBack(t *testing.T) {
	most := api.Notes{api.MaxCount, api.MaxCount, api.MaxCount, api.MaxCount}
	all := []api.Rec{
		{Kind: 1},
		{Kind: api.RecKinds - 1, Key: api.Key{Term: math.MaxUint16, Stan: math.MaxUint32}, Pan: strings.Repeat("9", 19), Amount: api.MaxAmount, Notes: most, Rej: most, Loaded: most},
	}
	for kind := 1; kind < api.RecKinds; kind++ {
		for n := range 20 {
			r := rec(n * kind)
			r.Kind, r.Pan = kind, nineteen[:n]
			all = append(all, r)
		}
	}
	l, d := made(t, 600, all)
	tells(t, "Add", l, d, all)
	slices.Reverse(all)
	if e := l.Replace(all); e != api.OK {
		t.Errorf("Replace: %v", e)
	}
	tells(t, "Replace", l, d, all)
	same := slices.Repeat(recs(4, 5), 30)
	if e := l.Replace(same); e != api.OK {
		t.Errorf("Replace by the same ones: %v", e)
	}
	tells(t, "the same record many times", l, d, same)
}

// P5.1
func TestNotRightAmongOthers(t *testing.T) {
	for _, n := range []int{0, 4} {
		l, d := made(t, 40, recs(0, n))
		free, before := l.Free(), bytesOf(d)
		for _, bad := range wrongs() {
			for at := range 4 {
				r := slices.Insert(recs(20, 23), at, bad)
				if e := l.Add(r...); e != api.ErrField {
					t.Errorf("Add of %v at %d: %v", bad, at, e)
				}
				if e := l.Replace(r); e != api.ErrField {
					t.Errorf("Replace by %v at %d: %v", bad, at, e)
				}
				if l.Free() != free || !bytes.Equal(bytesOf(d), before) {
					t.Fatalf("%v at %d: something was done", bad, at)
				}
			}
		}
		tells(t, "behind wrong ones", l, d, recs(0, n))
	}
}

// P5.1, DOC rule 4: ErrField, then ErrFull, then ErrDown.
func TestWhichErrorComes(t *testing.T) {
	const sectors = 20
	for _, down := range []bool{false, true} {
		l, d := made(t, sectors, recs(0, 2))
		if down {
			d.Cut(0)
		}
		good, many := recs(5, 6), recs(0, 64*sectors)
		behind := api.OK
		if down {
			behind = api.ErrDown
		}
		for _, x := range []struct {
			what string
			r    []api.Rec
			want api.Errno
		}{
			{"one that isn't right", []api.Rec{{}}, api.ErrField},
			{"too many, the last isn't right", append(slices.Clone(many), api.Rec{}), api.ErrField},
			{"too many, the first isn't right", append([]api.Rec{{}}, many...), api.ErrField},
			{"too many", many, api.ErrFull},
			{"one", good, behind},
		} {
			if e := l.Add(x.r...); e != x.want {
				t.Errorf("Add of %s, down %v: %v; want %v", x.what, down, e, x.want)
			}
			if e := l.Replace(x.r); e != x.want {
				t.Errorf("Replace by %s, down %v: %v; want %v", x.what, down, e, x.want)
			}
		}
		for _, e := range []api.Errno{l.Add(), l.Replace(nil)} {
			if e != behind {
				t.Errorf("none, down %v: %v; want %v", down, e, behind)
			}
		}
	}
}

// P5.1
func TestFreeOfANewDisk(t *testing.T) {
	for n := 8; n <= api.MaxSectors; n++ {
		if l, _ := open(t, disk.New(n)); l.Free() < max(promised(n), 0) {
			t.Errorf("%d sectors: room for %d; want %d", n, l.Free(), promised(n))
		}
	}
}

// P5.1: what Free tells goes in, at once or one by one; of one byte more all go in or none does.
func TestRecordsThatJustHaveRoom(t *testing.T) {
	for _, n := range []int{8, 9, 10, 11, 16, 17, 30, 31, 100, 257} {
		for used := range 3 {
			l, d := made(t, n, recs(0, used))
			was, free := recs(0, used), l.Free()
			more, ok := sized(50, free+1)
			if ok {
				switch e := l.Add(more...); e {
				case api.ErrFull:
					if l.Free() != free {
						t.Errorf("%d sectors: room for %d of %d behind ErrFull", n, l.Free(), free)
					}
				case api.OK:
					was = append(was, more...)
				default:
					t.Errorf("%d sectors, one byte more: %v", n, e)
				}
				tells(t, fmt.Sprintf("%d sectors, one byte more", n), l, d, was)
			}
			l, d = made(t, n, recs(0, used))
			fit, ok := sized(90, l.Free())
			for less := 1; !ok; less++ {
				fit, ok = sized(90, l.Free()-less)
			}
			if e := l.Add(fit...); e != api.OK {
				t.Fatalf("%d sectors: %d bytes of %d: %v", n, size(t, fit), free, e)
			}
			was = append(recs(0, used), fit...)
			tells(t, fmt.Sprintf("%d sectors, full", n), l, d, was)
			if e := l.Add(recs(0, 64*n)...); e != api.ErrFull {
				t.Errorf("%d sectors, full, Add: %v", n, e)
			}
			if e := l.Replace(recs(0, 64*n)); e != api.ErrFull {
				t.Errorf("%d sectors, full, Replace: %v", n, e)
			}
			if e := l.Add(); e != api.OK {
				t.Errorf("%d sectors, full, Add of none: %v", n, e)
			}
			tells(t, fmt.Sprintf("%d sectors, behind what had no room", n), l, d, was)
		}
	}
}

// P5.1
func TestOneByOneTillFull(t *testing.T) {
	for _, n := range []int{8, 13, 30, 64, 101} {
		l, d := made(t, n, nil)
		var all []api.Rec
		for i := 0; ; i++ {
			free := l.Free()
			e := l.Add(rec(i))
			if e == api.ErrFull && size(t, recs(i, i+1)) > free && l.Free() == free {
				break
			}
			if e != api.OK {
				t.Fatalf("%d sectors, record %d: %v, room for %d", n, i, e, free)
			}
			if l.Free() > free {
				t.Fatalf("%d sectors, record %d: room for %d, then for %d", n, i, free, l.Free())
			}
			all = append(all, rec(i))
		}
		if size(t, all) <= promised(n)-mostFrame {
			t.Errorf("%d sectors: full with %d bytes", n, size(t, all))
		}
		tells(t, fmt.Sprintf("%d sectors, one by one", n), l, d, all)
	}
}

// P5.1: what always has room has it, whatever was there, and so much room is there behind it.
func TestReplaceAlwaysHasRoom(t *testing.T) {
	for _, n := range []int{8, 16, 19, 20, 24, 30, 31, 100, 257, api.MaxSectors} {
		l, d := made(t, n, nil)
		for i := 0; l.Add(rec(i)) == api.OK; i++ {
		}
		for _, length := range []int{promised(n), promised(n) - 1, 0, promised(n) / 2, leastFrame, promised(n)} {
			r, ok := sized(length, length)
			if length > max(promised(n), 0) || !ok {
				continue
			}
			if e := l.Replace(r); e != api.OK || l.Free() < promised(n)-length {
				t.Fatalf("%d sectors, Replace by %d bytes: %v, room for %d", n, length, e, l.Free())
			}
			tells(t, fmt.Sprintf("%d sectors, replaced by %d bytes", n, length), l, d, r)
			more, ok := sized(7, l.Free())
			if ok {
				if e := l.Add(more...); e != api.OK {
					t.Fatalf("%d sectors, Add behind Replace by %d bytes: %v", n, length, e)
				}
				tells(t, fmt.Sprintf("%d sectors, filled behind %d bytes", n, length), l, d, append(r, more...))
			}
		}
	}
}

// P5.1
func TestFreeBehindAddAndReplace(t *testing.T) {
	const sectors = 60
	l, _ := made(t, sectors, nil)
	for n := range 8 {
		r := recs(n, 3*n)
		if e := l.Replace(r); e != api.OK || l.Free() < promised(sectors)-size(t, r) {
			t.Errorf("Replace by %d: %v, room for %d", len(r), e, l.Free())
		}
		for i := range 4 {
			more, ok := sized(i, 126+i)
			free := l.Free()
			if e := l.Add(more...); !ok || e != api.OK || l.Free() < free-size(t, more) {
				t.Errorf("Add of %d bytes: %v, room for %d of %d", size(t, more), e, l.Free(), free)
			}
		}
	}
}

// P5.1, P5.3: frames of former records lie behind the end of shorter ones: they aren't told.
func TestNothingOldIsTold(t *testing.T) {
	old := slices.Repeat(recs(6, 7), 20)
	for n := range len(old) {
		l, d := made(t, 100, old)
		few := slices.Repeat(recs(6, 7), n)
		for i := range 4 {
			if e := l.Replace(old); e != api.OK {
				t.Fatal(e)
			}
			if e := l.Replace(few); e != api.OK {
				t.Fatal(e)
			}
			tells(t, fmt.Sprintf("%d in the place of %d, time %d", n, len(old), i), l, d, few)
			if i%2 == 1 {
				if e := l.Replace(nil); e != api.OK {
					t.Fatal(e)
				}
				tells(t, "none", l, d, nil)
			}
		}
	}
}

// P5.1, DOC rule 3
func TestNobodyElsesMemory(t *testing.T) {
	l, d := made(t, 60, nil)
	room := append(make([]api.Rec, 0, 9), recs(0, 4)...)
	spare := room[:cap(room)]
	for i := 4; i < len(spare); i++ {
		spare[i] = rec(100 + i)
	}
	before := slices.Clone(spare)
	if e := l.Add(room...); e != api.OK {
		t.Fatal(e)
	}
	tells(t, "the spare room isn't added", l, d, recs(0, 4))
	if e := l.Replace(room[:3]); e != api.OK {
		t.Fatal(e)
	}
	if !slices.Equal(spare, before) {
		t.Errorf("what was handed in was changed: %v", spare)
	}
	room[0] = rec(50)
	tells(t, "what was handed in is not kept", l, d, recs(0, 3))
	_, a := open(t, d)
	a[0] = rec(60)
	_ = append(a, rec(61))
	tells(t, "an answer is new memory", l, d, recs(0, 3))
}

// keeps answers each way to keep or lose the first n writes, and all or none behind them.
func keeps(n int) [][]bool {
	var out [][]bool
	for mask := range 1 << n {
		for _, behind := range []bool{false, true} {
			keep := make([]bool, 60)
			for i := range keep {
				keep[i] = behind
				if i < n {
					keep[i] = mask>>i&1 == 1
				}
			}
			out = append(out, keep)
		}
	}
	return out
}

// change is an Add or a Replace that a crash may end.
type change struct {
	replace bool
	r       []api.Rec
}

// do has a journal do it.
func (c change) do(l *Log) api.Errno {
	if c.replace {
		return l.Replace(c.r)
	}
	return l.Add(c.r...)
}

// behind answers what there is behind it.
func (c change) behind(was []api.Rec) []api.Rec {
	if c.replace {
		return slices.Clone(c.r)
	}
	return append(slices.Clone(was), c.r...)
}

// may answers whether a crash may leave this, where the change answered e.
func (c change) may(was, now []api.Rec, e api.Errno) bool {
	if e == api.OK {
		return slices.Equal(now, c.behind(was))
	}
	if e != api.ErrDown {
		return false
	}
	if c.replace {
		return slices.Equal(now, was) || slices.Equal(now, c.r)
	}
	whole := c.behind(was)
	return len(now) >= len(was) && len(now) <= len(whole) && slices.Equal(now, whole[:len(now)])
}

// crash has a change be cut at its n-th write or sync, and answers what it answered.
func crash(l *Log, d *disk.Disk, c change, n int, keep []bool, torn int) api.Errno {
	d.Cut(n)
	e := c.do(l)
	d.Reopen(keep, torn)
	return e
}

// begun answers a disk that has had Adds and Replaces, and what it holds.
func begun(t *testing.T, sectors, adds int) (*disk.Disk, []api.Rec) {
	t.Helper()
	l, d := made(t, sectors, recs(0, 6))
	for _, c := range []change{{true, recs(30, 35)}, {true, recs(40, 42)}, {false, recs(50, 50+adds)}} {
		if e := c.do(l); e != api.OK {
			t.Fatalf("%v: %v", c, e)
		}
	}
	return d, append(recs(40, 42), recs(50, 50+adds)...)
}

// P5.2, P5.3: each write and sync of a change is cut, each of the first writes that wait is kept or lost, the last lost one is torn anywhere.
func TestCrashAtEachStep(t *testing.T) {
	for _, c := range []change{
		{false, nil}, {false, recs(10, 11)}, {false, recs(10, 14)},
		{true, nil}, {true, recs(10, 11)}, {true, recs(10, 14)}, {true, recs(40, 42)},
	} {
		for adds := range 3 {
			start, was := begun(t, 40, adds)
			whole := false
			for n := 1; !whole; n++ {
				for _, keep := range keeps(5) {
					for _, torn := range []int{0, 1, 2, 5, 6, 9, 17, 41, 63, 64} {
						d := start.Clone()
						l, _ := open(t, d)
						e := crash(l, d, c, n, keep, torn)
						_, now := open(t, d)
						if !c.may(was, now, e) {
							t.Fatalf("%v cut at %d, %v, torn %d: %v: %d records of %d: %v", c, n, keep[:8], torn, e, len(now), len(was), now)
						}
						if _, again := open(t, d); !slices.Equal(again, now) {
							t.Fatalf("%v cut at %d: told otherwise the second time", c, n)
						}
						whole = e == api.OK
					}
				}
			}
		}
	}
}

// P5.2: the same, torn at each byte, of a journal without records, too.
func TestCrashTornAtEachByte(t *testing.T) {
	for _, was := range [][]api.Rec{nil, recs(0, 1), recs(0, 5)} {
		for _, c := range []change{{false, recs(10, 13)}, {true, recs(10, 13)}, {true, nil}} {
			_, start := made(t, 30, was)
			whole := false
			for n := 1; !whole; n++ {
				for torn := -1; torn <= api.Sector+1; torn++ {
					for _, keep := range keeps(2) {
						d := start.Clone()
						l, _ := open(t, d)
						e := crash(l, d, c, n, keep, torn)
						if _, now := open(t, d); !c.may(was, now, e) {
							t.Fatalf("%v cut at %d, torn %d: %v: %v", c, n, torn, e, now)
						}
						whole = e == api.OK
					}
				}
			}
		}
	}
}

// P5.2: a crash behind a crash, with changes between that aren't cut.
func TestCrashBehindACrash(t *testing.T) {
	between := []change{{false, recs(60, 61)}, {false, recs(60, 64)}, {true, recs(70, 73)}, {true, nil}}
	cuts := []change{{false, recs(10, 14)}, {true, recs(20, 25)}}
	start, first := begun(t, 60, 1)
	for n := range 10 * 10 {
		for i, keep := range keeps(4) {
			for _, torn := range []int{0, 1, 5, 40} {
				d, was := start.Clone(), first
				l, _ := open(t, d)
				for round := range 4 {
					c := cuts[(i+round)%2]
					step := 1 + n%10
					if round%2 == 1 {
						step = 1 + n/10
					}
					e := crash(l, d, c, step, keep[round:], (torn+round*round)%65)
					again, now := open(t, d)
					if !c.may(was, now, e) {
						t.Fatalf("round %d, cut at %d, %v, torn %d: %v: %d records of %d", round, step, keep[:8], torn, e, len(now), len(was))
					}
					l = again
					b := between[(i/2+n+round)%len(between)]
					if e := b.do(l); e != api.OK {
						t.Fatalf("round %d: between: %v", round, e)
					}
					was = b.behind(now)
					_, told := open(t, d.Clone())
					if !slices.Equal(told, was) || l.Len() != len(was) {
						t.Fatalf("round %d: between: %d records of %d", round, len(told), len(was))
					}
				}
			}
		}
	}
}

// P5.2: crashes at once behind each other, of the same change.
func TestCrashBehindACrashAtOnce(t *testing.T) {
	for _, c := range []change{{false, recs(10, 14)}, {true, recs(20, 25)}} {
		for n := range 10 * 10 {
			for _, keep := range keeps(5) {
				d, was := begun(t, 60, 2)
				for _, step := range []int{1 + n%10, 1 + n/10, 3} {
					l, now := open(t, d)
					if !slices.Equal(now, was) {
						t.Fatalf("opened: %d records of %d", len(now), len(was))
					}
					e := crash(l, d, c, step, keep, step*7)
					if _, now = open(t, d); !c.may(was, now, e) {
						t.Fatalf("cut at %d: %v: %d records of %d", step, e, len(now), len(was))
					}
					was = now
				}
			}
		}
	}
}

// P5.2: a crash where nothing was under way loses nothing, and the same journal goes on.
func TestReopenBetween(t *testing.T) {
	d := disk.New(60)
	l, _ := open(t, d)
	var was []api.Rec
	for i, c := range []change{{false, recs(0, 3)}, {false, nil}, {true, recs(5, 9)}, {false, recs(9, 11)}, {true, nil}, {false, recs(11, 12)}, {true, recs(0, 8)}, {false, recs(8, 12)}} {
		if i%2 == 0 {
			d.Cut(100)
		}
		if e := c.do(l); e != api.OK {
			t.Fatalf("change %d: %v", i, e)
		}
		was = c.behind(was)
		if i%3 == 0 {
			d.Cut(0)
		}
		d.Reopen(make([]bool, i), 7*i)
		tells(t, fmt.Sprint("Reopen behind change ", i), l, d, was)
	}
}

// P5.2: at the edge of the room the same holds.
func TestCrashOfAFullJournal(t *testing.T) {
	for _, n := range []int{8, 9, 10, 30} {
		l, start := made(t, n, recs(0, 1))
		free := l.Free()
		fit, ok := sized(5, free)
		for less := 1; !ok; less++ {
			fit, ok = sized(5, free-less)
		}
		full, fullDisk := made(t, n, append(recs(0, 1), fit...))
		was := append(recs(0, 1), fit...)
		tells(t, "full", full, fullDisk, was)
		for _, x := range []struct {
			c   change
			d   *disk.Disk
			was []api.Rec
		}{
			{change{false, fit}, start, recs(0, 1)}, {change{true, fit}, fullDisk, was}, {change{true, recs(3, 4)}, fullDisk, was}, {change{false, nil}, fullDisk, was},
		} {
			whole := false
			for cut := 1; !whole; cut++ {
				for _, keep := range keeps(3) {
					for _, torn := range []int{0, 1, 5, 33, 64} {
						d := x.d.Clone()
						l, _ := open(t, d)
						e := crash(l, d, x.c, cut, keep, torn)
						if _, now := open(t, d); !x.c.may(x.was, now, e) {
							t.Fatalf("%d sectors, cut at %d: %v: %d records of %d", n, cut, e, len(now), len(x.was))
						}
						whole = e == api.OK
					}
				}
			}
		}
	}
}

// P5.1, P5.2, P5.3: many lives of a journal held against a list.
func TestAgainstAList(t *testing.T) {
	for seed := range 300 {
		rnd := rand.New(rand.NewSource(int64(seed)))
		sectors := 8 + rnd.Intn(60)
		d := disk.New(sectors)
		l, _ := open(t, d)
		var was []api.Rec
		for step := range 60 {
			from := rnd.Intn(400)
			c := change{rnd.Intn(4) == 0, recs(from, from+rnd.Intn(7))}
			if rnd.Intn(20) == 0 {
				c.r = append(c.r, wrongs()[rnd.Intn(len(wrongs()))])
			}
			free := l.Free()
			cut := 1 + rnd.Intn(30)
			d.Cut(cut)
			e := c.do(l)
			switch {
			case slices.ContainsFunc(c.r, func(r api.Rec) bool { return !frame.Right(r) }):
				if e != api.ErrField {
					t.Fatalf("seed %d, step %d: not right: %v", seed, step, e)
				}
			case e == api.ErrFull:
				if length := size(t, c.r); !c.replace && length <= free || length <= promised(sectors) && c.replace {
					t.Fatalf("seed %d, step %d: %d bytes have no room in %d", seed, step, length, free)
				}
			case e == api.OK:
				was = c.behind(was)
			}
			keep := make([]bool, rnd.Intn(12))
			for i := range keep {
				keep[i] = rnd.Intn(2) == 0
			}
			d.Reopen(keep, rnd.Intn(api.Sector+1))
			again, now := open(t, d)
			if e == api.ErrDown {
				if !c.may(was, now, e) {
					t.Fatalf("seed %d, step %d: cut at %d: %d records of %d", seed, step, cut, len(now), len(was))
				}
				was, l = now, again
			}
			if !slices.Equal(now, was) || l.Len() != len(was) || again.Free() != l.Free() {
				t.Fatalf("seed %d, step %d: %v: %d records of %d", seed, step, e, len(now), len(was))
			}
			if rnd.Intn(3) == 0 {
				l = again
			}
		}
	}
}

// DOC rule 1: whatever is on a disk, nothing panics, and what is told is what there is.
func TestBytesThatNoJournalWrote(t *testing.T) {
	rnd := rand.New(rand.NewSource(5))
	for range 3000 {
		sectors := 8 + rnd.Intn(12)
		_, d := made(t, sectors, recs(0, 3))
		for range 1 + rnd.Intn(6) {
			b := make([]byte, api.Sector)
			rnd.Read(b)
			if rnd.Intn(3) == 0 {
				b = bytes.Repeat([]byte{0xff}, api.Sector)
			}
			d.Write(rnd.Intn(3), b[:rnd.Intn(api.Sector+1)])
		}
		l, r := open(t, d)
		if e := l.Add(rec(9)); e != api.OK && e != api.ErrFull {
			t.Fatalf("Add: %v", e)
		} else if e == api.OK {
			r = append(r, rec(9))
		}
		if _, now := open(t, d); !slices.Equal(now, r) || l.Len() != len(r) {
			t.Fatalf("%d records of %d", len(now), len(r))
		}
		if e := l.Replace(recs(4, 5)); e != api.OK {
			t.Fatalf("Replace: %v", e)
		}
		if _, now := open(t, d); !slices.Equal(now, recs(4, 5)) {
			t.Fatalf("replaced: %v", now)
		}
	}
}

// DOC rule 1: a journal that was told ErrDown ends its calls, whatever they answer.
func TestCallsBehindErrDownEnd(t *testing.T) {
	for n := range 8 {
		l, d := made(t, 20, recs(0, 2))
		d.Cut(n)
		for range 3 {
			l.Add(recs(5, 7)...)
			l.Replace(recs(5, 6))
			l.Add()
		}
		l.Len()
		l.Free()
		d.Reopen([]bool{true}, 3)
		l.Add(rec(8))
		l.Replace(recs(8, 9))
	}
}
