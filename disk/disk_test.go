package disk

import (
	"bytes"
	"fmt"
	"math"
	"math/rand"
	"strings"
	"testing"

	"guichet/api"
)

// whole answers text with noughts behind it, a sector in all.
func whole(text string) string {
	return text + strings.Repeat("\x00", api.Sector-len(text))
}

// tells asks that the sectors' bytes are just these texts, noughts behind each.
func tells(t *testing.T, what string, d *Disk, want ...string) {
	t.Helper()
	if d.Sectors() != len(want) {
		t.Fatalf("%s: %d sectors; want %d", what, d.Sectors(), len(want))
	}
	for n, text := range want {
		if b, e := d.Read(n); e != api.OK || string(b) != whole(text) {
			t.Errorf("%s: sector %d: %q, %v; want %q", what, n, b, e, text)
		}
	}
}

// told answers all bytes of all sectors, and their errors.
func told(d *Disk) string {
	var out []string
	for n := range d.Sectors() {
		b, e := d.Read(n)
		out = append(out, string(b), e.Error())
	}
	return strings.Join(out, "; ")
}

// lay writes text into sector n and asks that nothing was wrong with it.
func lay(t *testing.T, d *Disk, n int, text string) {
	t.Helper()
	if e := d.Write(n, []byte(text)); e != api.OK {
		t.Fatalf("Write(%d, %q): %v", n, text, e)
	}
}

// settle syncs, and asks that nothing was wrong with it.
func settle(t *testing.T, d *Disk) {
	t.Helper()
	if e := d.Sync(); e != api.OK {
		t.Fatalf("Sync: %v", e)
	}
}

// P3.1
func TestNewHasSectorsOfNoughts(t *testing.T) {
	for _, x := range []struct{ asked, want int }{
		{0, 0}, {1, 1}, {7, 7}, {api.MaxSectors - 1, api.MaxSectors - 1}, {api.MaxSectors, api.MaxSectors},
		{api.MaxSectors + 1, api.MaxSectors}, {math.MaxInt, api.MaxSectors}, {-1, 0}, {math.MinInt, 0},
	} {
		d := New(x.asked)
		tells(t, fmt.Sprintf("New(%d)", x.asked), d, make([]string, x.want)...)
		if d.Down() {
			t.Errorf("New(%d): down", x.asked)
		}
	}
}

// P3.1
func TestEverySectorIsAnotherOne(t *testing.T) {
	for _, sectors := range []int{1, 3, api.MaxSectors} {
		d := New(sectors)
		want := make([]string, sectors)
		for n := range want {
			want[n] = fmt.Sprint("of ", n)
			lay(t, d, n, want[n])
		}
		tells(t, "waiting", d, want...)
		settle(t, d)
		tells(t, "synced", d, want...)
	}
}

// P3.1
func TestNoSuchSector(t *testing.T) {
	for _, sectors := range []int{0, 1, 3, api.MaxSectors} {
		d := New(sectors)
		for _, n := range []int{-1, sectors, sectors + 1, math.MaxInt, math.MinInt} {
			if b, e := d.Read(n); e != api.ErrRange || b != nil {
				t.Errorf("Read(%d) of %d: %v, %v", n, sectors, b, e)
			}
			for _, b := range [][]byte{nil, {}, []byte("x"), bytes.Repeat([]byte("y"), 100)} {
				if e := d.Write(n, b); e != api.ErrRange {
					t.Errorf("Write(%d, %q) of %d: %v", n, b, sectors, e)
				}
			}
		}
		tells(t, "behind wrong ones", d, make([]string, sectors)...)
		if d.Reopen([]bool{true, true}, api.Sector); d.Sectors() != sectors {
			t.Errorf("%d sectors of %d behind wrong writes", d.Sectors(), sectors)
		}
	}
}

// P3.1
func TestWriteLaysOneSector(t *testing.T) {
	old := strings.Repeat("o", api.Sector)
	for _, length := range []int{0, 1, 2, 31, api.Sector - 1, api.Sector, api.Sector + 1, 2 * api.Sector, 1000} {
		for _, synced := range []bool{false, true} {
			d := New(3)
			for n := range 3 {
				lay(t, d, n, old)
			}
			if synced {
				settle(t, d)
			}
			text := strings.Repeat("n", length)
			lay(t, d, 1, text)
			want := text[:min(length, api.Sector)]
			what := fmt.Sprintf("%d bytes over synced ones %v", length, synced)
			tells(t, what+", waiting", d, old, want, old)
			settle(t, d)
			tells(t, what, d, old, want, old)
			d.Reopen(nil, 0)
			tells(t, what+", opened", d, old, want, old)
		}
	}
	d := New(1)
	lay(t, d, 0, old)
	if e := d.Write(0, nil); e != api.OK {
		t.Errorf("nil: %v", e)
	}
	tells(t, "nil", d, "")
}

// P3.1
func TestReadTellsWhatWasWrittenLast(t *testing.T) {
	d := New(2)
	lay(t, d, 0, "one")
	tells(t, "waiting", d, "one", "")
	lay(t, d, 1, "other")
	lay(t, d, 0, "two")
	tells(t, "waiting twice", d, "two", "other")
	settle(t, d)
	tells(t, "synced", d, "two", "other")
	lay(t, d, 0, "three")
	tells(t, "over a synced one", d, "three", "other")
	settle(t, d)
	settle(t, d)
	tells(t, "nothing waits", d, "three", "other")
	d.Reopen(nil, 0)
	tells(t, "opened", d, "three", "other")
}

// P3.1, DOC rule 3
func TestNobodyElsesMemory(t *testing.T) {
	d := New(1)
	room := append(make([]byte, 0, 200), "handed"...)
	spare := room[:cap(room)]
	for i := len(room); i < len(spare); i++ {
		spare[i] = 's'
	}
	before := append([]byte(nil), spare...)
	if e := d.Write(0, room); e != api.OK {
		t.Fatal(e)
	}
	tells(t, "the spare room isn't written", d, "handed")
	if !bytes.Equal(spare, before) {
		t.Errorf("what was handed in was changed: %q", spare)
	}
	room[0] = 'X'
	tells(t, "what was handed in is not kept", d, "handed")
	for _, what := range []string{"waiting", "synced"} {
		a, _ := d.Read(0)
		b, _ := d.Read(0)
		a[0], a[63] = 'Y', 'Y'
		_ = append(a, "more"...)
		if string(b) != whole("handed") {
			t.Errorf("%s: two answers share memory", what)
		}
		tells(t, what+": an answer is new memory", d, "handed")
		settle(t, d)
	}
	lay(t, d, 0, "first")
	lay(t, d, 0, "second")
	flags := []bool{false, true}
	d.Reopen(flags[:1], 2)
	if flags[0] || !flags[1] {
		t.Errorf("keep was changed: %v", flags)
	}
	tells(t, "the spare room of keep says nothing", d, "sended")
}

// stepKind: what a step of a disk's life does.
type stepKind int

const (
	good stepKind = iota
	synced
	wrong
	reading
)

// script is a life of writes, syncs, wrong writes and reads.
func script() []stepKind {
	return []stepKind{good, wrong, good, reading, synced, good, wrong, wrong, synced, synced, reading, good, good, good, synced, good}
}

// take does one step; its write is told by its place in the script.
func take(d *Disk, i int, kind stepKind) api.Errno {
	switch kind {
	case good:
		return d.Write(i%d.Sectors(), []byte(fmt.Sprint("step ", i)))
	case synced:
		return d.Sync()
	case wrong:
		return d.Write(d.Sectors(), []byte("wrong"))
	}
	_, e := d.Read(0)
	return e
}

// usual answers what a step answers while the power is there.
func usual(kind stepKind) api.Errno {
	if kind == wrong {
		return api.ErrRange
	}
	return api.OK
}

// counts tells whether a cut counts such a step.
func counts(kind stepKind) bool {
	return kind == good || kind == synced
}

// P3.2, P3.3
func TestCutAtEachWriteAndSync(t *testing.T) {
	const sectors = 3
	steps := 0
	for _, kind := range script() {
		if counts(kind) {
			steps++
		}
	}
	for n := 1; n <= steps+1; n++ {
		d := New(sectors)
		d.Cut(n)
		stays, last := make([]string, sectors), make([]string, sectors)
		counted := 0
		for i, kind := range script() {
			want := usual(kind)
			if counts(kind) && counted < n {
				counted++
			}
			if counted == n {
				want = api.ErrDown
			} else if kind == good {
				last[i%sectors] = fmt.Sprint("step ", i)
			} else if kind == synced {
				copy(stays, last)
			}
			if e := take(d, i, kind); e != want || d.Down() != (counted == n) {
				t.Fatalf("Cut(%d), step %d: %v, down %v; want %v", n, i, e, d.Down(), want)
			}
		}
		c := d.Clone()
		c.Reopen(nil, 0)
		tells(t, fmt.Sprintf("Cut(%d): what was synced stays", n), c, stays...)
		d.Reopen(make([]bool, 100), -1)
		tells(t, fmt.Sprintf("Cut(%d): none is kept", n), d, stays...)
		settle(t, d)
	}
}

// P3.2
func TestCutWriteAndSyncDoNothing(t *testing.T) {
	all := []bool{true, true, true, true}
	d := New(2)
	lay(t, d, 0, "old")
	settle(t, d)
	lay(t, d, 1, "waits")
	d.Cut(1)
	if e := d.Write(0, []byte("cut")); e != api.ErrDown {
		t.Errorf("the write that is cut: %v", e)
	}
	c := d.Clone()
	d.Reopen(all, api.Sector)
	tells(t, "a write that is cut doesn't wait", d, "old", "waits")
	c.Reopen(nil, 3)
	tells(t, "a write that is cut isn't the last one", c, "old", "wai")

	d = New(1)
	lay(t, d, 0, "old")
	settle(t, d)
	lay(t, d, 0, "new")
	d.Cut(1)
	if e := d.Sync(); e != api.ErrDown {
		t.Errorf("the sync that is cut: %v", e)
	}
	c = d.Clone()
	d.Reopen(nil, 0)
	tells(t, "a sync that is cut leaves the write waiting", d, "old")
	c.Reopen(all, 0)
	tells(t, "a sync that is cut loses no write", c, "new")
}

// P3.1, P3.2
func TestDownComesAheadOfRange(t *testing.T) {
	d := New(1)
	lay(t, d, 0, "there")
	settle(t, d)
	d.Cut(0)
	for _, n := range []int{-1, 0, 1, math.MaxInt, math.MinInt} {
		if b, e := d.Read(n); e != api.ErrDown || b != nil {
			t.Errorf("Read(%d): %v, %v", n, b, e)
		}
		if e := d.Write(n, []byte("x")); e != api.ErrDown {
			t.Errorf("Write(%d): %v", n, e)
		}
	}
	if e := d.Sync(); e != api.ErrDown || d.Sectors() != 1 || !d.Down() {
		t.Errorf("Sync: %v, %d sectors, down %v", e, d.Sectors(), d.Down())
	}
	d.Reopen([]bool{true, true, true}, api.Sector)
	tells(t, "what came while it was down is nothing", d, "there")
}

// P3.2
func TestCutBelowOneIsAtOnce(t *testing.T) {
	for _, n := range []int{0, -1, -100, math.MinInt} {
		d := New(1)
		lay(t, d, 0, "waits")
		if d.Cut(n); !d.Down() {
			t.Errorf("Cut(%d): not down", n)
		}
		if e := d.Sync(); e != api.ErrDown {
			t.Errorf("Cut(%d): %v", n, e)
		}
		d.Reopen([]bool{true}, 0)
		tells(t, fmt.Sprintf("Cut(%d)", n), d, "waits")
	}
}

// P3.2
func TestEachCutCountsAnew(t *testing.T) {
	for _, x := range []struct{ first, done, second int }{{1, 0, 3}, {2, 1, 2}, {5, 3, 1}, {5, 4, 7}, {9, 0, 1}, {math.MaxInt, 2, 2}} {
		d := New(1)
		d.Cut(x.first)
		for range x.done {
			lay(t, d, 0, "a")
		}
		d.Cut(x.second)
		for i := 1; i < x.second; i++ {
			if e := d.Write(0, nil); e != api.OK || d.Down() {
				t.Errorf("%v: the call %d: %v", x, i, e)
			}
		}
		if e := d.Write(0, nil); e != api.ErrDown || !d.Down() {
			t.Errorf("%v: the last call: %v", x, e)
		}
	}
	d := New(1)
	d.Cut(2)
	d.Cut(0)
	if !d.Down() {
		t.Error("Cut(2), Cut(0): not down")
	}
	d.Reopen(nil, 0)
	d.Cut(math.MaxInt)
	for range 1000 {
		lay(t, d, 0, "far")
	}
}

// P3.2
func TestCutDoesNotBringThePowerBack(t *testing.T) {
	for _, n := range []int{-1, 0, 1, 5, math.MaxInt} {
		d := New(1)
		d.Cut(1)
		d.Sync()
		if d.Cut(n); !d.Down() || d.Sync() != api.ErrDown || d.Write(0, nil) != api.ErrDown {
			t.Errorf("Cut(%d) of one that is down", n)
		}
		d.Reopen(nil, 0)
		for i := range 9 {
			if e := d.Sync(); e != api.OK {
				t.Errorf("Cut(%d) of one that was down still counts: %d: %v", n, i, e)
			}
		}
	}
}

// P3.2
func TestReopenLeavesNothingToBeCut(t *testing.T) {
	for _, n := range []int{0, 1, 2, 5} {
		d := New(1)
		d.Cut(n)
		if d.Reopen(nil, 0); d.Down() {
			t.Errorf("Cut(%d), Reopen: down", n)
		}
		for range 9 {
			lay(t, d, 0, "a")
		}
		settle(t, d)
		d.Cut(2)
		if e := d.Sync(); e != api.OK {
			t.Errorf("a cut behind Reopen: %v", e)
		}
		if e := d.Sync(); e != api.ErrDown {
			t.Errorf("a cut behind Reopen, its second: %v", e)
		}
	}
}

// P3.2
func TestReopenKeepsWhatIsNamed(t *testing.T) {
	no, yes := false, true
	for i, x := range []struct {
		keep []bool
		torn int
		want [3]string
	}{
		{nil, 0, [3]string{"0000", "1111", "2222"}},
		{[]bool{}, math.MinInt, [3]string{"0000", "1111", "2222"}},
		{[]bool{yes}, 0, [3]string{"aaaa", "1111", "2222"}},
		{[]bool{no, no, no, no, no}, 0, [3]string{"0000", "1111", "2222"}},
		{[]bool{no, no, no, no, no, yes}, 0, [3]string{"0000", "1111", "2222"}},
		{[]bool{yes, yes, yes, yes, yes, no, no}, 2, [3]string{"eee", "bbbb", "dddd"}},
		{[]bool{yes, yes, yes, yes, yes, yes}, 2, [3]string{"eee", "bbbb", "dddd"}},
		{[]bool{yes, yes, yes, yes}, 1, [3]string{"eaaa", "bbbb", "dddd"}},
		{[]bool{no, yes, yes, yes}, 1, [3]string{"e000", "bbbb", "dddd"}},
		{[]bool{no, yes, yes, yes}, 3, [3]string{"eee0", "bbbb", "dddd"}},
		{[]bool{no, yes, yes, yes}, 4, [3]string{"eee", "bbbb", "dddd"}},
		{[]bool{no, yes, yes, yes}, 63, [3]string{"eee", "bbbb", "dddd"}},
		{[]bool{no, yes, yes, yes}, 64, [3]string{"eee", "bbbb", "dddd"}},
		{[]bool{no, yes, yes, yes}, 65, [3]string{"eee", "bbbb", "dddd"}},
		{[]bool{no, yes, yes, yes}, math.MaxInt, [3]string{"eee", "bbbb", "dddd"}},
		{[]bool{no, yes, yes, yes}, -1, [3]string{"0000", "bbbb", "dddd"}},
		// The last one that isn't kept has a later one of its sector kept.
		{[]bool{no, yes, yes, yes, yes}, 2, [3]string{"eee", "bbbb", "dddd"}},
		{[]bool{yes, yes, no, yes, yes}, 3, [3]string{"eee", "bbbb", "dddd"}},
		{[]bool{no, no, no, yes, yes}, 64, [3]string{"eee", "1111", "dddd"}},
		// It lies over an earlier one of its sector, kept or not.
		{[]bool{yes, yes, yes, no, yes}, 2, [3]string{"eee", "bbbb", "ddcc"}},
		{[]bool{yes, yes, no, no, yes}, 2, [3]string{"eee", "bbbb", "dd22"}},
		// Just the last one is torn.
		{[]bool{no, no, yes, yes, yes}, 2, [3]string{"eee", "bb11", "dddd"}},
		{[]bool{yes, no, yes, no}, 2, [3]string{"eeaa", "1111", "cccc"}},
	} {
		for _, cut := range []int{0, 1, 100} {
			d := New(3)
			for n, text := range []string{"0000", "1111", "2222"} {
				lay(t, d, n, text)
			}
			settle(t, d)
			for j, text := range []string{"aaaa", "bbbb", "cccc", "dddd", "eee"} {
				lay(t, d, []int{0, 1, 2, 2, 0}[j], text)
			}
			d.Cut(cut)
			d.Reopen(x.keep, x.torn)
			what := fmt.Sprintf("%d: keep %v, torn %d, cut %d", i, x.keep, x.torn, cut)
			tells(t, what, d, x.want[:]...)
			if d.Down() {
				t.Errorf("%s: down", what)
			}
			d.Reopen([]bool{yes, yes, yes, yes, yes}, api.Sector)
			tells(t, what+", opened again", d, x.want[:]...)
			d.Reopen(nil, 0)
			tells(t, what+", opened a third time", d, x.want[:]...)
			settle(t, d)
			tells(t, what+", synced", d, x.want[:]...)
		}
	}
}

// P3.2
func TestTornAtEachByte(t *testing.T) {
	old, short := strings.Repeat("o", api.Sector), "short"
	for torn := -1; torn <= api.Sector+1; torn++ {
		d := New(1)
		lay(t, d, 0, old)
		settle(t, d)
		lay(t, d, 0, short)
		d.Reopen(nil, torn)
		// The noughts behind a short write are bytes of it, too.
		n := min(max(torn, 0), api.Sector)
		tells(t, fmt.Sprint("torn ", torn), d, whole(short)[:n]+old[n:])
	}
}

// P3.2, P3.3
func TestReopenWithoutACrash(t *testing.T) {
	d := New(1)
	lay(t, d, 0, "lost")
	d.Reopen(nil, 0)
	tells(t, "the example", d, "")
	d.Reopen([]bool{true}, 9)
	tells(t, "nothing waits", d, "")
	lay(t, d, 0, "stays")
	settle(t, d)
	d.Reopen(nil, api.Sector)
	tells(t, "synced", d, "stays")
	lay(t, d, 0, "kept")
	d.Reopen([]bool{true}, 0)
	d.Reopen(nil, 0)
	tells(t, "what was kept stays", d, "kept")
	New(0).Reopen([]bool{true}, 5)
}

// P3.2
func TestCloneIsTheSame(t *testing.T) {
	d := New(2)
	lay(t, d, 0, "synced")
	settle(t, d)
	lay(t, d, 0, "first")
	lay(t, d, 1, "second")
	d.Cut(3)
	lay(t, d, 1, "third")
	c := d.Clone()
	tells(t, "a clone", c, "first", "third")
	if c.Down() {
		t.Error("a clone: down")
	}
	if e := c.Write(0, []byte("fourth")); e != api.OK {
		t.Errorf("a clone's cut: %v", e)
	}
	if e := c.Sync(); e != api.ErrDown {
		t.Errorf("a clone's cut, its last: %v", e)
	}
	c2 := c.Clone()
	if e := c2.Sync(); e != api.ErrDown || !c2.Down() {
		t.Errorf("a clone of one that is down: %v", e)
	}
	c2.Reopen([]bool{true, false, true}, 2)
	tells(t, "a clone's writes wait", c2, "forst", "third")
	if !c.Down() || d.Down() {
		t.Errorf("down: %v, %v", c.Down(), d.Down())
	}
	tells(t, "the disk behind its clone", d, "first", "third")
	tells(t, "none", New(0).Clone())
}

// P3.2
func TestCloneAndDiskDoNotTouchEachOther(t *testing.T) {
	change := []struct {
		what string
		do   func(d *Disk)
	}{
		{"Write", func(d *Disk) { d.Write(0, []byte("other")) }},
		{"Write twice", func(d *Disk) { d.Write(1, []byte("other")); d.Write(0, []byte("other")) }},
		{"Sync", func(d *Disk) { d.Sync() }},
		{"Sync, Write, Sync", func(d *Disk) { d.Sync(); d.Write(0, []byte("other")); d.Sync() }},
		{"Cut", func(d *Disk) { d.Cut(0) }},
		{"Reopen", func(d *Disk) { d.Reopen([]bool{false, true}, 1) }},
		{"Reopen, Write", func(d *Disk) { d.Reopen(nil, 3); d.Write(0, []byte("other")); d.Write(1, []byte("more")) }},
	}
	for _, x := range change {
		for _, clone := range []bool{false, true} {
			d := New(2)
			lay(t, d, 0, "base")
			settle(t, d)
			for i := range 5 { // so that the list has spare room
				lay(t, d, 1, fmt.Sprint("waits ", i))
			}
			c := d.Clone()
			changed, still := d, c
			if clone {
				changed, still = c, d
			}
			x.do(changed)
			what := fmt.Sprintf("%s, of the clone %v", x.what, clone)
			if still.Down() {
				t.Errorf("%s: the other is down", what)
			}
			tells(t, what, still, "base", "waits 4")
			ahead := told(changed)
			lay(t, still, 1, "last")
			if behind := told(changed); behind != ahead {
				t.Errorf("%s, then a write of the other: %q; want %q", what, behind, ahead)
			}
			still.Reopen([]bool{true, true, true}, 2)
			tells(t, what+", opened", still, "base", "laits 2")
		}
	}
}

// model tells the same as a disk by going through all that was ever done to it.
type model struct {
	sectors int
	done    []written
	left    int
	down    bool
}

// written: a write: where, its bytes, whether it stays for good.
type written struct {
	n     int
	bytes string
	stays bool
}

// counted answers whether this call is cut.
func (m *model) counted() bool {
	if !m.down && m.left >= 0 {
		m.left--
		m.down = m.left < 0
	}
	return m.down
}

func (m *model) write(n int, text string) api.Errno {
	if m.down {
		return api.ErrDown
	}
	if n < 0 || n >= m.sectors {
		return api.ErrRange
	}
	if m.counted() {
		return api.ErrDown
	}
	m.done = append(m.done, written{n: n, bytes: whole(text[:min(len(text), api.Sector)])})
	return api.OK
}

func (m *model) sync() api.Errno {
	if m.counted() {
		return api.ErrDown
	}
	for i := range m.done {
		m.done[i].stays = true
	}
	return api.OK
}

func (m *model) cut(n int) {
	if !m.down {
		m.left, m.down = n-1, n < 1
	}
}

func (m *model) reopen(keep []bool, torn int) {
	var out []written
	i, lost := 0, -1
	for _, w := range m.done {
		if !w.stays {
			w.stays = i < len(keep) && keep[i]
			i++
		}
		if !w.stays {
			w.bytes = ""
			lost = len(out)
		}
		out = append(out, w)
	}
	if lost >= 0 {
		out[lost].bytes = m.done[lost].bytes[:min(max(torn, 0), api.Sector)]
	}
	for i := range out {
		out[i].stays = true
	}
	m.done, m.left, m.down = out, -1, false
}

func (m *model) read(n int) string {
	b := []byte(whole(""))
	for _, w := range m.done {
		if w.n == n {
			copy(b, w.bytes)
		}
	}
	return string(b)
}

// P3.1, P3.2, P3.3
func TestAgainstAModel(t *testing.T) {
	for seed := range int64(600) {
		r := rand.New(rand.NewSource(seed))
		m := &model{sectors: r.Intn(4), left: -1}
		d := New(m.sectors)
		for i := range 60 {
			what := fmt.Sprintf("seed %d, call %d", seed, i)
			switch r.Intn(12) {
			case 0:
				n := r.Intn(12) - 1
				m.cut(n)
				d.Cut(n)
			case 1, 2:
				keep := make([]bool, r.Intn(7))
				for j := range keep {
					keep[j] = r.Intn(2) > 0
				}
				torn := r.Intn(70) - 2
				m.reopen(keep, torn)
				d.Reopen(keep, torn)
			case 3:
				if e, want := d.Sync(), m.sync(); e != want {
					t.Fatalf("%s: Sync: %v; want %v", what, e, want)
				}
			case 4:
				c := d.Clone()
				d.Write(0, []byte("of the one that is left"))
				d.Reopen(nil, 5)
				d = c
			default:
				n := r.Intn(m.sectors+2) - 1
				text := strings.Repeat(string(rune('a'+i%26)), r.Intn(70))
				if e, want := d.Write(n, []byte(text)), m.write(n, text); e != want {
					t.Fatalf("%s: Write(%d): %v; want %v", what, n, e, want)
				}
			}
			if d.Down() != m.down || d.Sectors() != m.sectors {
				t.Fatalf("%s: down %v; want %v", what, d.Down(), m.down)
			}
			for n := 0; n < m.sectors && !m.down; n++ {
				if b, e := d.Read(n); e != api.OK || string(b) != m.read(n) {
					t.Fatalf("%s: Read(%d): %q, %v; want %q", what, n, b, e, m.read(n))
				}
			}
		}
	}
}
