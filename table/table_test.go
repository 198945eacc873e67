package table

import (
	"fmt"
	"math"
	"math/rand"
	"regexp"
	"slices"
	"strconv"
	"strings"
	"testing"

	"guichet/api"
)

// The chapter's numbers and kinds, said again.
const (
	most  = 100
	size  = 14
	kinds = "ABDEIZ"
	both  = "BDE"
)

var isLine = regexp.MustCompile(`\A([0-9]{3}) ([ABDEIZ]) ([0-9]{3}) ([0-9]{3})\n\z`)

// count answers the number of some digits.
func count(s string) int {
	v, err := strconv.Atoi(s)
	if err != nil {
		panic(err)
	}
	return v
}

// modelParse answers what Parse must, by a pattern and the library's lines.
func modelParse(s string) ([]api.State, int, api.Errno) {
	var l []api.State
	line := 0
	for one := range strings.Lines(s) {
		line++
		parts := isLine.FindStringSubmatch(one)
		if parts == nil {
			return nil, line, api.ErrText
		}
		if line > most {
			return nil, line, api.ErrSize
		}
		l = append(l, api.State{Id: count(parts[1]), Kind: parts[2][0], Next: count(parts[3]), Other: count(parts[4])})
	}
	return l, 0, api.OK
}

// modelText answers what Text must.
func modelText(l []api.State) string {
	s := ""
	for _, x := range l {
		one := fmt.Sprintf("%03d %c %03d %03d\n", x.Id, rune(x.Kind), x.Next, x.Other)
		if !isLine.MatchString(one) {
			return ""
		}
		s += one
	}
	return s
}

// modelLeads answers the Ids that a walk may go on to.
func modelLeads(x api.State) []int {
	var l []int
	if x.Kind != 'Z' {
		l = append(l, x.Next)
	}
	if strings.IndexByte(both, x.Kind) >= 0 {
		l = append(l, x.Other)
	}
	return l
}

// placeOf answers the place of the first state of that Id, and -1 where there is none.
func placeOf(l []api.State, id int) int {
	return slices.IndexFunc(l, func(x api.State) bool { return x.Id == id })
}

// modelEnds answers whether a walk from that place may come to a Z, by going on from it wherever it leads.
func modelEnds(l []api.State, at int) bool {
	seen := make([]bool, len(l))
	seen[at] = true
	for todo := []int{at}; len(todo) > 0; {
		x := l[todo[0]]
		todo = todo[1:]
		if x.Kind == 'Z' {
			return true
		}
		for _, id := range modelLeads(x) {
			if to := placeOf(l, id); !seen[to] {
				seen[to] = true
				todo = append(todo, to)
			}
		}
	}
	return false
}

// modelCheck answers what Check must, by comparing all with all.
func modelCheck(l []api.State) (int, api.Errno) {
	for i, x := range l {
		if placeOf(l, x.Id) < i {
			return i, api.ErrThere
		}
	}
	for i, x := range l {
		for _, id := range modelLeads(x) {
			if placeOf(l, id) < 0 {
				return i, api.ErrNone
			}
		}
	}
	for i := range l {
		if !modelEnds(l, i) {
			return i, api.ErrState
		}
	}
	return 0, api.OK
}

// parses fails the test where Parse of s isn't that list.
func parses(t *testing.T, s string, want []api.State) {
	t.Helper()
	if l, line, e := Parse(s); e != api.OK || line != 0 || !slices.Equal(l, want) {
		t.Fatalf("Parse(%q): %v, %d, %v, not %v", s, l, line, e, want)
	}
}

// refusesText fails the test where Parse of s isn't that error, with that line's number, and nothing else.
func refusesText(t *testing.T, s string, line int, want api.Errno) {
	t.Helper()
	if l, n, e := Parse(s); e != want || n != line || len(l) != 0 {
		t.Fatalf("Parse(%q): %v, %d, %v, not %d, %v", s, l, n, e, line, want)
	}
}

// parsesAsModel fails the test where Parse doesn't answer what it must, and answers whether it is all right.
func parsesAsModel(t *testing.T, s string) bool {
	t.Helper()
	want, line, e := modelParse(s)
	if e != api.OK {
		refusesText(t, s, line, e)
		return false
	}
	parses(t, s, want)
	return true
}

// tells fails the test where Text of l isn't s, or, s being a text that may be parsed, isn't read as l.
func tells(t *testing.T, l []api.State, s string) {
	t.Helper()
	if got := Text(l); got != s {
		t.Fatalf("Text(%v): %q, not %q", l, got, s)
	}
	if s != "" && len(l) <= most {
		parses(t, s, l)
	}
}

// checks fails the test where Check of l isn't that place and error.
func checks(t *testing.T, l []api.State, at int, want api.Errno) {
	t.Helper()
	if got, e := Check(l); got != at || e != want {
		t.Fatalf("Check(%v): %d, %v, not %d, %v", l, got, e, at, want)
	}
}

// checksAsModel fails the test where Check doesn't answer what it must, and answers what that is.
func checksAsModel(t *testing.T, l []api.State) (int, api.Errno) {
	t.Helper()
	at, e := modelCheck(l)
	checks(t, l, at, e)
	return at, e
}

// finds fails the test where Find doesn't answer the state of that place (none: -1).
func finds(t *testing.T, l []api.State, id, at int) {
	t.Helper()
	want := api.State{}
	if at >= 0 {
		want = l[at]
	}
	if x, ok := Find(l, id); x != want || ok != (at >= 0) {
		t.Fatalf("Find(%v, %d): %v, %v, not that of %d", l, id, x, ok, at)
	}
}

// end answers a state that ends each walk.
func end(id int) api.State {
	return api.State{Id: id, Kind: 'Z'}
}

// goes answers a state of that kind; what a kind doesn't use leads nowhere.
func goes(id int, kind byte, next, other int) api.State {
	return api.State{Id: id, Kind: kind, Next: next, Other: other}
}

// many answers a text of so many lines.
func many(lines int) string {
	s := ""
	for i := range lines {
		s += fmt.Sprintf("%03d Z 000 000\n", i)
	}
	return s
}

// P14.1: a walk at a terminal: a card, four digits, an amount, a key, the request, the end: its text is read and is a table without fault.
func TestWalkAtATerminal(t *testing.T) {
	s := "000 A 001 000\n001 B 002 009\n002 D 003 009\n003 E 004 009\n004 I 009 000\n009 Z 000 000\n"
	l := []api.State{
		{Id: 0, Kind: api.StateCard, Next: 1},
		{Id: 1, Kind: api.StatePin, Next: 2, Other: 9},
		{Id: 2, Kind: api.StateAmount, Next: 3, Other: 9},
		{Id: 3, Kind: api.StateChoice, Next: 4, Other: 9},
		{Id: 4, Kind: api.StateAsk, Next: 9},
		{Id: 9, Kind: api.StateEnd},
	}
	parses(t, s, l)
	tells(t, l, s)
	checks(t, l, 0, api.OK)
	for i, x := range l {
		finds(t, l, x.Id, i)
	}
}

// P14.1, P14.2, P14.3: the chapter's example, one state Z.
func TestExample(t *testing.T) {
	l := []api.State{end(7)}
	parses(t, "007 Z 000 000\n", l)
	tells(t, l, "007 Z 000 000\n")
	checks(t, l, 0, api.OK)
	finds(t, l, 7, 0)
	finds(t, l, 0, -1)
}

// P14.2: of no text there are no states, and of no states no text.
func TestNothing(t *testing.T) {
	parses(t, "", nil)
	for _, l := range [][]api.State{nil, {}} {
		tells(t, l, "")
		checks(t, l, 0, api.OK)
		finds(t, l, 0, -1)
	}
}

// P14.2: one line of each sign as its kind.
func TestLineOfEachKind(t *testing.T) {
	for c := range 256 {
		kind := byte(c)
		s := "012 " + string([]byte{kind}) + " 345 678\n"
		if strings.IndexByte(kinds, kind) < 0 {
			refusesText(t, s, 1, api.ErrText)
			tells(t, []api.State{goes(12, kind, 345, 678)}, "")
			continue
		}
		parses(t, s, []api.State{goes(12, kind, 345, 678)})
		tells(t, []api.State{goes(12, kind, 345, 678)}, s)
	}
}

// P14.2: each number of three digits in each place of a line.
func TestLineOfEachNumber(t *testing.T) {
	for v := range 1000 {
		s := fmt.Sprintf("%03d", v)
		tells(t, []api.State{goes(v, 'A', 1, 2)}, s+" A 001 002\n")
		tells(t, []api.State{goes(1, 'B', v, 2)}, "001 B "+s+" 002\n")
		tells(t, []api.State{goes(1, 'Z', 2, v)}, "001 Z 002 "+s+"\n")
	}
}

// P14.2: one sign changed, taken out, put in, at each place, alone and between other lines.
func TestLineWithEachSignChanged(t *testing.T) {
	good := "012 E 345 678\n"
	right := 0
	for i := range size + 1 {
		for c := range 256 {
			sign := string([]byte{byte(c)})
			texts := []string{good[:i] + sign + good[i:]}
			if i < size {
				texts = append(texts, good[:i]+sign+good[i+1:], good[:i]+good[i+1:])
			}
			for _, s := range texts {
				if parsesAsModel(t, s) {
					right++
				}
				parsesAsModel(t, good+s+good)
			}
		}
	}
	// In each of nine places ten digits, in the kind's place six kinds, in the gaps' and the end's places the good sign alone.
	if want := 9*10 + 6 + 3 + 1; right != want {
		t.Fatalf("%d texts are right, not %d", right, want)
	}
}

// P14.2: two signs of a line that change places, and parts of other widths that make fourteen bytes all the same.
func TestLinesOfOtherForms(t *testing.T) {
	for _, s := range []string{
		"\n", "x", " ", "\x00", "12 E 345 678\n", "0012 E 345 678\n", "12 E 3456 678\n", "12 E 345 6780\n", "012 E 34 5678\n", "012 E 34 678\n", "012 E 345 67\n", "012 E 3450 678\n", "012 E 345 6780\n",
		"+12 E 345 678\n", "-12 E 345 678\n", "012 E +34 678\n", "012 E -34 678\n", "012 E 345 +67\n", "012 E 345 -67\n",
		" 12 E 345 678\n", "0 2 E 345 678\n", "01  E 345 678\n", "012 E 3 5 678\n", "012 E 345  78\n", "012 E 345 67 \n",
		"012  E 345 678\n", "012 E  345 678\n", "012 E 345  678\n", " 012 E 345 678\n", "012 E 345 678 \n",
		"012E345678\n", "012\tE\t345\t678\n", "012,E,345,678\n", "012 e 345 678\n", "012 C 345 678\n", "012 AB 345 67\n", "012  345 678 \n", "E 012 345 678\n",
		"012 E 345 678", "012 E 345 678\r", "012 E 345 678\r\n", "012 E 345 678\n\r", "012 E 345 678\n\n", "\n012 E 345 678\n", "012 E 345\n678\n",
		"0x1 E 345 678\n", "1e2 E 345 678\n", "0_1 E 345 678\n", "٣12 E 345 678\n", "012 E 345 67\xb2\n",
		"# a remark..\n", "012 E 345 678 012\n", "012 E 345 678012 E 345 678\n",
	} {
		line := 1
		if strings.HasPrefix(s, "012 E 345 678\n") {
			line = 2
		}
		refusesText(t, s, line, api.ErrText)
		refusesText(t, "000 Z 000 000\n"+s, line+1, api.ErrText)
	}
}

// P14.2: a text that is cut anywhere but behind a line has a last line that is none.
func TestTextsThatAreCut(t *testing.T) {
	s := "000 A 001 000\n001 B 002 000\n002 Z 000 000\n"
	for i := range len(s) + 1 {
		if i%size == 0 {
			if l, line, e := Parse(s[:i]); len(l) != i/size || line != 0 || e != api.OK {
				t.Fatalf("Parse(%q): %v, %d, %v", s[:i], l, line, e)
			}
			continue
		}
		refusesText(t, s[:i], i/size+1, api.ErrText)
	}
}

// P14.2: a bad line in each place, also behind the hundredth; of two bad ones the first is told.
func TestBadLineInEachPlace(t *testing.T) {
	for _, lines := range []int{1, 2, 3, 7, 99, 100, 101} {
		good := many(lines)
		for i := range lines {
			for _, bad := range []string{"x\n", "\n", "000 Z 000 000\r\n", "000 C 000 000\n", "000 Z 000 0000\n"} {
				refusesText(t, good[:i*size]+bad+good[(i+1)*size:], i+1, api.ErrText)
				refusesText(t, good[:i*size]+bad+good[i*size:]+bad, i+1, api.ErrText)
			}
		}
	}
}

// P14.2: a hundred states at most; line by line, so that the one behind them is told ahead of what follows.
func TestCountsOfLines(t *testing.T) {
	for _, lines := range []int{98, 99, 100} {
		l, line, e := Parse(many(lines))
		if len(l) != lines || line != 0 || e != api.OK {
			t.Fatalf("%d lines: %d, %d, %v", lines, len(l), line, e)
		}
		tells(t, l, many(lines))
		for _, bad := range []string{"x", "\n", "000 Z 000 00"} {
			refusesText(t, many(lines)+bad, lines+1, api.ErrText)
		}
	}
	for _, lines := range []int{101, 102, 150, 1000} {
		refusesText(t, many(lines), 101, api.ErrSize)
		refusesText(t, many(lines)+"x", 101, api.ErrSize)
	}
	refusesText(t, strings.Repeat("001 Z 000 000\n", 101), 101, api.ErrSize)
}

// P14.2: states that come twice, or lead to none, are states of a text all the same.
func TestTextsOfTablesWithFaults(t *testing.T) {
	s := "001 A 999 000\n001 A 001 000\n001 B 002 003\n"
	parses(t, s, []api.State{goes(1, 'A', 999, 0), goes(1, 'A', 1, 0), goes(1, 'B', 2, 3)})
	tells(t, []api.State{goes(1, 'A', 999, 0), goes(1, 'A', 1, 0), goes(1, 'B', 2, 3)}, s)
}

// edges answers numbers at both ends of what a line may have, and of int.
func edges() []int {
	return []int{math.MinInt, math.MinInt + 1, math.MinInt32, -1000, -999, -1, 0, 1, 9, 10, 99, 100, 998, 999, 1000, 1001, 9999, 65536, 1 << 32, math.MaxInt32, math.MaxInt - 1, math.MaxInt}
}

// isNumber answers whether a line may have that number.
func isNumber(v int) bool {
	return v >= 0 && v <= 999
}

// P14.2: each number of a state at each edge, with each other one.
func TestTextAtEdges(t *testing.T) {
	for _, id := range edges() {
		for _, next := range edges() {
			for _, other := range edges() {
				x := goes(id, 'D', next, other)
				want := ""
				if isNumber(id) && isNumber(next) && isNumber(other) {
					want = fmt.Sprintf("%03d D %03d %03d\n", id, next, other)
				}
				tells(t, []api.State{x}, want)
			}
		}
	}
}

// P14.2: the numbers that a kind doesn't use have limits all the same.
func TestTextOfNumbersNotUsed(t *testing.T) {
	for _, kind := range []byte(kinds) {
		for _, v := range []int{-1, 1000} {
			tells(t, []api.State{goes(v, kind, 0, 0)}, "")
			tells(t, []api.State{goes(0, kind, v, 0)}, "")
			tells(t, []api.State{goes(0, kind, 0, v)}, "")
		}
	}
}

// P14.2: one bad state in each place among good ones is enough.
func TestTextOfOneBadState(t *testing.T) {
	for _, n := range []int{1, 2, 3, 100, 101} {
		good, _, _ := Parse(many(min(n, most)))
		for len(good) < n {
			good = append(good, end(0))
		}
		for i := range n {
			for _, bad := range []api.State{{}, goes(-1, 'Z', 0, 0), goes(0, 'A', 1000, 0), goes(0, 'I', 0, -1), goes(0, 'z', 0, 0)} {
				l := slices.Clone(good)
				l[i] = bad
				tells(t, l, "")
			}
		}
	}
}

// P14.2: Text has no limit: the text of more than MaxStates states is told, though it isn't parsed.
func TestTextOfManyStates(t *testing.T) {
	for _, n := range []int{99, 100, 101, 102, 5000} {
		var l []api.State
		for i := range n {
			l = append(l, goes(i%1000, kinds[i%6], (i+1)%1000, 999-i%1000))
		}
		s := modelText(l)
		if len(s) != n*size {
			t.Fatalf("%d states: %d bytes", n, len(s))
		}
		tells(t, l, s)
		if n > most {
			refusesText(t, s, 101, api.ErrSize)
		}
	}
}

// P14.3: one state that leads to itself never ends, but for a Z, which leads nowhere, and where there is nothing that leads elsewhere.
func TestCheckOfOneState(t *testing.T) {
	for _, id := range []int{math.MinInt, -1, 0, 5, 999, 1000, math.MaxInt} {
		checks(t, []api.State{goes(id, 'Z', id, id)}, 0, api.OK)
		checks(t, []api.State{goes(id, 'Z', 77, 78)}, 0, api.OK)
		for _, kind := range []byte("ABDEIQz\x00\xff") {
			checks(t, []api.State{goes(id, kind, id, id)}, 0, api.ErrState)
			checks(t, []api.State{goes(id, kind, 77, id)}, 0, api.ErrNone)
		}
	}
}

// P14.3: what leads to no Id is a fault where the kind uses it, and none where it doesn't; of kinds that are none Next is used alone.
func TestCheckOfWhatEachKindUses(t *testing.T) {
	for c := range 256 {
		kind := byte(c)
		wantNext, wantOther := api.ErrNone, api.OK
		if kind == 'Z' {
			wantNext = api.OK
		}
		if strings.IndexByte(both, kind) >= 0 {
			wantOther = api.ErrNone
		}
		checks(t, []api.State{goes(1, kind, 2, 2), end(2)}, 0, api.OK)
		checks(t, []api.State{goes(1, kind, 3, 2), end(2)}, 0, wantNext)
		checks(t, []api.State{goes(1, kind, 2, 3), end(2)}, 0, wantOther)
		checks(t, []api.State{goes(1, kind, 3, 3), end(2)}, 0, wantNext)
	}
}

// P14.3: a way to an end counts where the kind has it: Next of all kinds but Z, Other of B, D, E.
func TestCheckOfWaysOfEachKind(t *testing.T) {
	for c := range 256 {
		kind := byte(c)
		wantOther := api.ErrState
		if strings.IndexByte(both, kind) >= 0 || kind == 'Z' {
			wantOther = api.OK
		}
		checks(t, []api.State{goes(1, kind, 2, 1), end(2)}, 0, api.OK)
		checks(t, []api.State{goes(1, kind, 1, 2), end(2)}, 0, wantOther)
	}
}

// P14.3: an Id that comes again, in each place with each other one: the place of the later one is told.
func TestCheckOfStatesThatComeTwice(t *testing.T) {
	for n := 2; n <= 12; n++ {
		for j := range n {
			for i := range j {
				var l []api.State
				for k := range n {
					l = append(l, end(k))
				}
				l[j].Id = i
				checks(t, l, j, api.ErrThere)
				l[j].Kind = 'A'
				checks(t, l, j, api.ErrThere)
			}
		}
	}
	checks(t, []api.State{end(1), end(1), end(1)}, 1, api.ErrThere)
	checks(t, []api.State{end(1), end(2), end(2), end(1)}, 2, api.ErrThere)
	checks(t, []api.State{end(math.MinInt), end(math.MaxInt), end(math.MinInt)}, 2, api.ErrThere)
}

// P14.3: a state that leads to none, in each place.
func TestCheckOfStatesThatAreNot(t *testing.T) {
	for n := 2; n <= 12; n++ {
		for i := range n {
			var l []api.State
			for k := range n {
				l = append(l, goes(k, 'E', n, n))
			}
			l = append(l, end(n))
			l[i].Next = n + 1
			checks(t, l, i, api.ErrNone)
			l[i] = goes(i, 'E', n, -1)
			checks(t, l, i, api.ErrNone)
			l[i] = goes(i, 'I', n, -1)
			checks(t, l, 0, api.OK)
		}
	}
}

// P14.3: rounds without a way out: of all states of them none ends, and the first one is told.
func TestCheckOfRounds(t *testing.T) {
	for n := 1; n <= 20; n++ {
		for _, kind := range []byte("ABDEIQ") {
			var l []api.State
			for k := range n {
				l = append(l, goes(k, kind, (k+1)%n, (k+n-1)%n))
			}
			checks(t, l, 0, api.ErrState)
			checks(t, append([]api.State{end(n)}, l...), 1, api.ErrState)
			l = append(l, end(n))
			checks(t, l, 0, api.ErrState)
			for i := range n {
				// One state of the round leads out of it.
				out := slices.Clone(l)
				out[i] = goes(i, 'E', (i+1)%n, n)
				checks(t, out, 0, api.OK)
			}
		}
	}
}

// P14.3: states that lead to a round, and those that a round leads out of: the first one without an end is told.
func TestCheckOfRowsIntoRounds(t *testing.T) {
	// 0 and 1 end; 2 leads into the round of 3 and 4; 5 may choose between it and the end.
	l := []api.State{goes(0, 'A', 1, 0), goes(1, 'I', 9, 0), goes(2, 'A', 3, 0), goes(3, 'B', 4, 3), goes(4, 'A', 3, 0), goes(5, 'E', 3, 0), end(9)}
	checks(t, l, 2, api.ErrState)
	l[4] = goes(4, 'D', 3, 5)
	checks(t, l, 0, api.OK)
	l[5] = goes(5, 'E', 3, 2)
	checks(t, l, 2, api.ErrState)
	l[2] = goes(2, 'B', 3, 1)
	checks(t, l, 0, api.OK)
}

// P14.3: a Z that is reached by Other alone, from state to state.
func TestCheckOfWaysByOther(t *testing.T) {
	for _, kind := range []byte(kinds + "Q") {
		var l []api.State
		for k := range 10 {
			l = append(l, goes(k, 'D', k, k+1))
		}
		l[7].Kind = kind
		l = append(l, end(10))
		if strings.IndexByte(both+"Z", kind) >= 0 {
			checks(t, l, 0, api.OK)
		} else {
			checks(t, l, 0, api.ErrState)
		}
	}
}

// row answers so many states, each of which leads to the one behind it, the last one to the end; it is told in that order, or backwards.
func row(n int, kind byte, backwards bool) []api.State {
	var l []api.State
	for k := range n {
		l = append(l, goes(k, kind, k+1, 0))
	}
	l = append(l, end(n))
	if backwards {
		slices.Reverse(l)
	}
	return l
}

// P14.3: long rows in both orders, more states than MaxStates among them: Check has no limit.
func TestCheckOfLongRows(t *testing.T) {
	for _, n := range []int{1, 2, 98, 99, 100, 101, 1000, 200000} {
		for _, kind := range []byte("AEIQ") {
			checks(t, row(n, kind, false), 0, api.OK)
			checks(t, row(n, kind, true), 0, api.OK)
			l := row(n, kind, false)
			l[n] = goes(n, 'A', 0, 0)
			checks(t, l, 0, api.ErrState)
			slices.Reverse(l)
			checks(t, l, 0, api.ErrState)
		}
	}
}

// P14.3: many states that all lead to one, and one another.
func TestCheckOfManyThatLeadToOne(t *testing.T) {
	const n = 100000
	var l []api.State
	for k := range n {
		l = append(l, goes(k, 'B', n, (k+1)%n))
	}
	l = append(l, end(n))
	checks(t, l, 0, api.OK)
	l[n].Kind = 'I'
	checks(t, l, 0, api.ErrState)
	l[n] = end(n + 1)
	checks(t, l, 0, api.ErrNone)
	l[n] = end(0)
	checks(t, l, n, api.ErrThere)
}

// P14.3: of a table with more than one fault the first kind of them is told, and of that kind the first place.
func TestCheckOfSeveralFaults(t *testing.T) {
	round, none, twice := goes(1, 'A', 1, 0), goes(2, 'A', 55, 0), goes(3, 'A', 3, 0)
	for _, x := range []struct {
		l    []api.State
		at   int
		want api.Errno
	}{
		{[]api.State{round, none, twice, twice}, 3, api.ErrThere},
		{[]api.State{twice, twice, none, round}, 1, api.ErrThere},
		{[]api.State{none, round, twice, round, twice}, 3, api.ErrThere},
		{[]api.State{none, none}, 1, api.ErrThere},
		{[]api.State{round, none}, 1, api.ErrNone},
		{[]api.State{none, round}, 0, api.ErrNone},
		{[]api.State{round, none, goes(4, 'B', 1, 56)}, 1, api.ErrNone},
		{[]api.State{round, goes(4, 'B', 1, 56), none}, 1, api.ErrNone},
		{[]api.State{end(9), round, twice}, 1, api.ErrState},
		{[]api.State{twice, round, end(9)}, 0, api.ErrState},
		{[]api.State{goes(9, 'Z', 55, 56), round}, 1, api.ErrState},
	} {
		checks(t, x.l, x.at, x.want)
		checksAsModel(t, x.l)
	}
}

// P14.3: numbers that no line may have are numbers of a table all the same.
func TestCheckOfNumbersOutsideOfLines(t *testing.T) {
	for _, v := range edges() {
		for _, w := range edges() {
			l := []api.State{goes(v, 'B', w, v), end(w)}
			checksAsModel(t, l)
			l = []api.State{goes(5, 'A', v, 0), end(w)}
			checksAsModel(t, l)
			l = []api.State{goes(5, 'E', w, v), end(w)}
			checksAsModel(t, l)
		}
	}
}

// P14.3: all tables of two states, of each kind, with each way that there is between them and out of them.
func TestCheckOfAllTablesOfTwo(t *testing.T) {
	var all []api.State
	for id := 1; id <= 2; id++ {
		for _, kind := range []byte(kinds + "Q") {
			for next := 1; next <= 3; next++ {
				for other := 1; other <= 3; other++ {
					all = append(all, goes(id, kind, next, other))
				}
			}
		}
	}
	told := map[api.Errno]int{}
	for _, x := range all {
		for _, y := range all {
			_, e := checksAsModel(t, []api.State{x, y})
			told[e]++
		}
	}
	for _, e := range []api.Errno{api.OK, api.ErrThere, api.ErrNone, api.ErrState} {
		if told[e] == 0 {
			t.Errorf("no table with %v", e)
		}
	}
}

// P14.3: all tables of three states, with each way that there is between them.
func TestCheckOfAllTablesOfThree(t *testing.T) {
	var all [3][]api.State
	for id := range 3 {
		for _, kind := range []byte("AEZ") {
			for next := range 4 {
				for other := range 4 {
					all[id] = append(all[id], goes(id, kind, next, other))
				}
			}
		}
	}
	for _, x := range all[0] {
		for _, y := range all[1] {
			for _, z := range all[2] {
				checksAsModel(t, []api.State{x, y, z})
			}
		}
	}
}

// randomTable answers a table whose states mostly lead to one another.
func randomTable(r *rand.Rand) []api.State {
	n := r.Intn(14)
	ids := r.Perm(n + 1)
	var l []api.State
	for k := range n {
		kind := (kinds + "Q")[r.Intn(7)]
		if kind == 'Z' && r.Intn(2) == 0 {
			kind = 'A'
		}
		l = append(l, goes(ids[k], kind, ids[r.Intn(n)], ids[r.Intn(n)]))
	}
	switch {
	case n == 0:
	case r.Intn(6) == 0:
		l[r.Intn(n)].Id = ids[r.Intn(n)]
	case r.Intn(6) == 0:
		l[r.Intn(n)].Next = ids[n]
	case r.Intn(6) == 0:
		l[r.Intn(n)].Other = ids[n]
	}
	return l
}

// P14.3: tables at random; Find of each Id and of none.
func TestTablesAtRandom(t *testing.T) {
	r := rand.New(rand.NewSource(143))
	told := map[api.Errno]int{}
	for range 40000 {
		l := randomTable(r)
		_, e := checksAsModel(t, l)
		told[e]++
		for id := -1; id < 15; id++ {
			finds(t, l, id, placeOf(l, id))
		}
	}
	for _, e := range []api.Errno{api.OK, api.ErrThere, api.ErrNone, api.ErrState} {
		if told[e] < 1000 {
			t.Errorf("only %d tables with %v", told[e], e)
		}
	}
}

// P14.3: the first of an Id is found, in each place, whatever its kind; the numbers of the others aren't asked.
func TestFind(t *testing.T) {
	l := []api.State{goes(3, 'A', 4, 5), goes(1, 'B', 3, 4), goes(3, 'Z', 1, 2), goes(-7, 'Q', 8, 9), goes(1, 'A', 0, 0), goes(math.MaxInt, 'I', 6, 6), goes(math.MinInt, 0, 6, 6), {}}
	finds(t, l, 3, 0)
	finds(t, l, 1, 1)
	finds(t, l, -7, 3)
	finds(t, l, math.MaxInt, 5)
	finds(t, l, math.MinInt, 6)
	finds(t, l, 0, 7)
	for _, id := range []int{2, 4, 5, 6, 7, 8, 9, -1, -3, 1000, 1<<32 + 3, math.MaxInt - 1, math.MinInt + 1} {
		finds(t, l, id, -1)
	}
	finds(t, l[:7], 0, -1)
	for n := 1; n <= 120; n++ {
		long := row(n, 'A', n%2 == 0)
		for id := range n + 1 {
			finds(t, long, id, placeOf(long, id))
		}
		finds(t, long, n+1, -1)
	}
}

// way answers how many states a walk from that place goes through till it ends, where it takes the shortest way; -1 where there is none.
func way(t *testing.T, l []api.State, at int) int {
	t.Helper()
	steps := map[int]int{l[at].Id: 0}
	for todo := []int{l[at].Id}; len(todo) > 0; todo = todo[1:] {
		x, ok := Find(l, todo[0])
		if !ok {
			t.Fatalf("%v: a walk comes to %d, which isn't there", l, todo[0])
		}
		if x.Kind == 'Z' {
			return steps[x.Id]
		}
		for _, id := range modelLeads(x) {
			if _, seen := steps[id]; !seen {
				steps[id] = steps[x.Id] + 1
				todo = append(todo, id)
			}
		}
	}
	return -1
}

// P14.4: in a table without fault each walk may end, whichever state it begins at; where Check tells a state without a way, no walk from it does.
func TestEachWalkMayEnd(t *testing.T) {
	r := rand.New(rand.NewSource(144))
	ended, never := 0, 0
	for range 20000 {
		l := randomTable(r)
		at, e := Check(l)
		switch e {
		case api.OK:
			for i := range l {
				if n := way(t, l, i); n < 0 || n >= len(l) {
					t.Fatalf("%v: a walk from %d: %d", l, i, n)
				}
				ended++
			}
		case api.ErrState:
			for i := range at {
				if way(t, l, i) < 0 {
					t.Fatalf("%v: no walk from %d ends, but %d is told", l, i, at)
				}
			}
			if way(t, l, at) >= 0 {
				t.Fatalf("%v: a walk from %d ends", l, at)
			}
			never++
		}
	}
	if ended < 1000 || never < 1000 {
		t.Fatalf("only %d walks, %d without an end", ended, never)
	}
}

// P14.4: wherever choices at random have led a walk in a table without fault, it may end from there.
func TestWalksAtRandomMayEnd(t *testing.T) {
	r := rand.New(rand.NewSource(145))
	for range 2000 {
		l := randomTable(r)
		if _, e := Check(l); e != api.OK || len(l) == 0 {
			continue
		}
		at := r.Intn(len(l))
		for range 50 {
			leads := modelLeads(l[at])
			if len(leads) == 0 {
				break
			}
			at = placeOf(l, leads[r.Intn(len(leads))])
			if way(t, l, at) < 0 {
				t.Fatalf("%v: no walk from %d ends", l, at)
			}
		}
	}
}

// P14.2: states at random come back from their text; one sign of it changed is as the model says.
func TestStatesAtRandom(t *testing.T) {
	r := rand.New(rand.NewSource(142))
	for range 3000 {
		var l []api.State
		for range r.Intn(104) {
			l = append(l, goes(r.Intn(1000), kinds[r.Intn(6)], r.Intn(1000), r.Intn(1000)))
		}
		s := modelText(l)
		if got := Text(l); got != s {
			t.Fatalf("Text(%v): %q, not %q", l, got, s)
		}
		parsesAsModel(t, s)
		if s == "" {
			continue
		}
		at, sign := r.Intn(len(s)), string([]byte{"0123456789ABDEIZ \r\nx"[r.Intn(20)]})
		parsesAsModel(t, s[:at]+sign+s[at+1:])
		parsesAsModel(t, s[:at]+sign+s[at:])
		parsesAsModel(t, s[:at]+s[at+1:])
		parsesAsModel(t, s[:at])
	}
}

// P14.2: bytes at random, of the signs that lines have: what is parsed has just that text.
func TestTextsAtRandom(t *testing.T) {
	r := rand.New(rand.NewSource(146))
	for range 100000 {
		b := []byte("000 A 000 000\n")
		for range r.Intn(3) {
			b[r.Intn(size)] = "0123456789ABDEIZ \nC"[r.Intn(19)]
		}
		s := strings.Repeat("999 Z 000 000\n", r.Intn(3)) + string(b)
		parsesAsModel(t, s)
		if l, _, e := Parse(s); e == api.OK && Text(l) != s {
			t.Fatalf("Text of Parse(%q): %q", s, Text(l))
		}
	}
}

// P14.2, P14.3: DOC.md's rule 3: what is handed in stays, its spare room too.
func TestListsHandedInStay(t *testing.T) {
	all := []api.State{goes(2, 'E', 3, 1), goes(1, 'A', 3, 0), goes(4, 'I', 2, 0), end(3), goes(3, 'A', 1, 1), goes(9, 'Q', -1, 2000)}
	for n := range len(all) + 1 {
		l := slices.Clone(all)
		Text(l[:n])
		Check(l[:n])
		Find(l[:n], 4)
		Find(l[:n], 77)
		if !slices.Equal(l, all) {
			t.Fatalf("%d: %v, not %v", n, l, all)
		}
	}
}

// P14.2, P14.3: DOC.md's rule 3: the states of the spare room say nothing.
func TestSpareRoomIsNoInput(t *testing.T) {
	all := []api.State{goes(1, 'A', 2, 0), end(2), end(2), goes(5, 'Q', 9, 9)}
	checks(t, all[:1], 0, api.ErrNone)
	checks(t, all[:2], 0, api.OK)
	checks(t, all[:3], 2, api.ErrThere)
	finds(t, all[:1], 2, -1)
	finds(t, all[:3], 5, -1)
	tells(t, all[:3], "001 A 002 000\n002 Z 000 000\n002 Z 000 000\n")
	tells(t, all[:0], "")
}

// P14.2: DOC.md's rule 3: what is answered is new memory, and what was handed in may be changed behind the call.
func TestAnswersAreNew(t *testing.T) {
	s := "001 A 002 000\n002 Z 000 000\n"
	one, _, _ := Parse(s)
	two, _, _ := Parse(s)
	want := slices.Clone(two)
	for i := range one {
		one[i] = goes(7, 'Q', 7, 7)
	}
	_ = append(one[:1], goes(8, 'Q', 8, 8))
	if !slices.Equal(two, want) {
		t.Fatalf("the second list was changed with the first: %v", two)
	}
	parses(t, s, want)
	l := slices.Clone(want)
	text := Text(l)
	found, _ := Find(l, 2)
	l[0], l[1] = end(9), goes(2, 'B', 0, 0)
	if text != s || found != end(2) {
		t.Fatalf("answers were changed with the list: %q, %v", text, found)
	}
	checks(t, l, 1, api.ErrNone)
}

// P14.2, P14.3: DOC.md's rule 8: the same call tells the same each time, whatever was told between.
func TestAnswersDoNotHangOnOthers(t *testing.T) {
	good := "000 E 001 002\n001 I 002 000\n002 Z 000 000\n"
	l := []api.State{goes(0, 'E', 1, 2), goes(1, 'I', 2, 0), end(2)}
	bad := []api.State{goes(5, 'A', 6, 0), goes(6, 'E', 5, 8), goes(8, 'B', 8, 6), end(9), goes(7, 'A', 7, 0)}
	for range 200 {
		parses(t, good, l)
		refusesText(t, good+"x", 4, api.ErrText)
		refusesText(t, many(101), 101, api.ErrSize)
		tells(t, l, good)
		tells(t, append(slices.Clone(l), api.State{}), "")
		checks(t, l, 0, api.OK)
		checks(t, bad, 0, api.ErrState)
		checks(t, append(slices.Clone(bad), goes(11, 'A', 12, 0)), 5, api.ErrNone)
		checks(t, append(slices.Clone(bad), end(8)), 5, api.ErrThere)
		finds(t, l, 1, 1)
		finds(t, l, 3, -1)
	}
}
