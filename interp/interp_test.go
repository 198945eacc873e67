package interp

import (
	"fmt"
	"math"
	"math/rand"
	"regexp"
	"slices"
	"strconv"
	"strings"
	"testing"

	"guichet/api"
	"guichet/table"
)

// The chapter's numbers and kinds, said again.
const (
	mostInputs = 100
	mostSteps  = 200
	kinds      = "ABDEIZ"
	takers     = "ABDE"
)

// The patterns of what leads to Next, and to Other, from a kind that takes an input.
var (
	nextOf  = patterns(`[0-9]{1,19}`, `[0-9]{4}`, `[0-9]{1,7}`, `1`)
	otherOf = patterns(`[^\x00-\x{10FFFF}]`, `.*`, `.*`, `2`)
)

// patterns answers patterns for whole inputs of A, B, D and E.
func patterns(whole ...string) map[byte]*regexp.Regexp {
	m := map[byte]*regexp.Regexp{}
	for i, s := range whole {
		m[takers[i]] = regexp.MustCompile(`(?s)\A(?:` + s + `)\z`)
	}
	return m
}

// visit: a state by which a walk came, and the input that it took there.
type visit struct {
	kind byte
	said string
}

// modelWalk answers the Id where a walk ends, and all that it came by on the way.
func modelWalk(l []api.State, at int, in []string) (int, []visit) {
	var by []visit
	used := 0
	for len(by) < mostSteps {
		i := slices.IndexFunc(l, func(x api.State) bool { return x.Id == at })
		if i < 0 || l[i].Kind != 'I' && nextOf[l[i].Kind] == nil {
			break
		}
		x := l[i]
		if x.Kind == 'I' {
			by = append(by, visit{'I', ""})
			at = x.Next
			continue
		}
		if used >= len(in) || used >= mostInputs {
			break
		}
		said := in[used]
		used++
		by = append(by, visit{x.Kind, said})
		switch {
		case nextOf[x.Kind].MatchString(said):
			at = x.Next
		case otherOf[x.Kind].MatchString(said):
			at = x.Other
		}
	}
	return at, by
}

// lastRight answers the last input that a state of that kind took well, and "" where there is none.
func lastRight(by []visit, kind byte) string {
	for _, v := range slices.Backward(by) {
		if v.kind == kind && nextOf[kind].MatchString(v.said) {
			return v.said
		}
	}
	return ""
}

// modelRun answers what Run must: the request is that of the first state I ahead of which there is what it asks for.
func modelRun(l []api.State, start int, in []string) api.Result {
	at, by := modelWalk(l, start, in)
	r := api.Result{At: at, Steps: len(by)}
	for i, v := range by {
		if v.kind != 'I' {
			continue
		}
		pan, amount := lastRight(by[:i], 'A'), strings.TrimLeft(lastRight(by[:i], 'D'), "0")
		if pan == "" || amount == "" {
			continue
		}
		r.Asked, r.Pan = true, pan
		r.Amount, _ = strconv.ParseInt(amount, 10, 64)
		return r
	}
	return r
}

// runs fails the test where Run doesn't tell that.
func runs(t *testing.T, l []api.State, start int, in []string, want api.Result) {
	t.Helper()
	if got := Run(l, start, in); got != want {
		t.Fatalf("Run(%v, %d, %q): %+v, not %+v", l, start, in, got, want)
	}
}

// runsAsModel fails the test where Run doesn't tell what it must, and answers what that is.
func runsAsModel(t *testing.T, l []api.State, start int, in []string) api.Result {
	t.Helper()
	want := modelRun(l, start, in)
	runs(t, l, start, in, want)
	return want
}

// ended answers a Result of a walk that asked nothing.
func ended(at, steps int) api.Result {
	return api.Result{At: at, Steps: steps}
}

// asked answers a Result of a walk that asked.
func asked(at, steps int, pan string, amount int64) api.Result {
	return api.Result{At: at, Steps: steps, Asked: true, Pan: pan, Amount: amount}
}

// row answers states 0, 1 .. of those kinds, each leading to the one behind it; Other leads to 90 and more.
func row(kinds string) []api.State {
	var l []api.State
	for i := range len(kinds) {
		l = append(l, api.State{Id: i, Kind: kinds[i], Next: i + 1, Other: 90 + i})
	}
	return l
}

// says answers inputs, parted by commas.
func says(s string) []string {
	return strings.Split(s, ",")
}

// times answers so many inputs that are the same.
func times(n int, said string) []string {
	return slices.Repeat([]string{said}, n)
}

// nines answers so many nines.
func nines(n int) string {
	return strings.Repeat("9", n)
}

// strange answers inputs that are no digits, near such as are.
func strange() []string {
	l := []string{"", " ", "+", "-", ".", "x", "1 ", " 1", "+1", "-1", "1.", "0x1", "1e1", "1_0", "1\n", "\n1", "1\x00", "١", "１", "12345６7", "\xff", "1\xff", "12 4", "+123", "-123", " 123", "123 ", "12a4", "1,23"}
	for _, c := range []byte{0, '0' - 1, '9' + 1, 'A', 'F', 'a', 'f', 0x80, 0xb2, 255} {
		for n := 1; n <= 20; n++ {
			for at := range n {
				b := []byte(nines(n))
				b[at] = c
				l = append(l, string(b))
			}
		}
	}
	return l
}

// P15.1: the chapter's example, A, D, I, Z.
func TestExample(t *testing.T) {
	l := row("ADIZ")
	runs(t, l, 0, says("51,60"), asked(3, 3, "51", 60))
	runs(t, l, 0, says("51,60,1,2"), asked(3, 3, "51", 60))
	runs(t, l, 0, says("51"), ended(1, 1))
	runs(t, l, 0, nil, ended(0, 0))
	runs(t, l, 1, says("60"), ended(3, 2))
	runs(t, l, 2, says("60"), ended(3, 1))
	runs(t, l, 3, says("60"), ended(3, 0))
}

// P15.1: a whole walk with all kinds, and its ways aside.
func TestWholeWalk(t *testing.T) {
	l := row("ABDEIEZ")
	l[5].Next, l[5].Other = 2, 6
	runs(t, l, 0, says("4970101234567890123,1234,600,1,2"), asked(6, 6, "4970101234567890123", 600))
	runs(t, l, 0, says("4970101234567890123,1234,600,1,1,700,1,2"), asked(6, 10, "4970101234567890123", 600))
	runs(t, l, 0, says("49,123,600,1,2"), ended(91, 2))
	runs(t, l, 0, says("49,1234,x,1,2"), ended(92, 3))
	runs(t, l, 0, says("49,1234,600,2,2"), ended(93, 4))
	runs(t, l, 0, says("x,49,1234,600,3,1,,2"), asked(6, 9, "49", 600))
}

// P15.1: no states, no inputs, starts that are no Id, negative ones, the greatest and the least.
func TestNothing(t *testing.T) {
	for _, start := range []int{0, 1, -1, 999, 1000, math.MaxInt, math.MinInt} {
		for _, l := range [][]api.State{nil, {}, row("ZZ")[1:1], {{Id: 5, Kind: 'A', Next: 5}, {Id: 6, Kind: 'I', Next: 6}}} {
			for _, in := range [][]string{nil, {}, {""}, {"1", "2"}, times(200, "1")} {
				runs(t, l, start, in, ended(start, 0))
			}
		}
	}
}

// P15.1: Ids may be any number, and so may what states lead to.
func TestAnyId(t *testing.T) {
	for _, id := range []int{math.MinInt, -1000, -1, 0, 1, 999, 1000, math.MaxInt} {
		for _, to := range []int{math.MinInt, -7, 7, 12345, math.MaxInt} {
			if to == id {
				continue
			}
			for i := range len(takers) {
				l := []api.State{{Id: id, Kind: takers[i], Next: to, Other: 8}}
				said := []string{"1", "1234", "1", "1"}[i]
				runs(t, l, id, []string{said}, ended(to, 1))
				l[0].Next, l[0].Other = 8, to
				want := []api.Result{ended(id, 1), ended(to, 1), ended(to, 1), ended(to, 1)}[i]
				runs(t, l, id, []string{[]string{"x", "x", "x", "2"}[i]}, want)
			}
			runs(t, []api.State{{Id: id, Kind: 'I', Next: to, Other: 8}}, id, nil, ended(to, 1))
			runs(t, []api.State{{Id: id, Kind: 'I', Next: to}, {Id: to, Kind: 'Z'}}, id, nil, ended(to, 1))
		}
	}
}

// P15.1: a start at a state of each kind, of each sign that is a kind or none: only A, B, D, E take inputs, only I goes on without.
func TestStartAtEachKind(t *testing.T) {
	for c := range 256 {
		kind := byte(c)
		l := []api.State{{Id: 3, Kind: kind, Next: 4, Other: 5}, {Id: 4, Kind: 'Z'}, {Id: 5, Kind: 'Z'}}
		for _, in := range [][]string{nil, {"1234"}, {"1"}, {"2"}, {"x"}, {"1234", "1234"}} {
			got := runsAsModel(t, l, 3, in)
			takes := strings.IndexByte(takers, kind) >= 0 && len(in) > 0
			if (got.Steps > 0) != (takes || kind == 'I') {
				t.Fatalf("kind %q, %q: %+v", kind, in, got)
			}
		}
	}
}

// P15.1: of an Id that comes twice, the first state counts.
func TestIdTwice(t *testing.T) {
	for i := range len(kinds) {
		for j := range len(kinds) {
			l := []api.State{{Id: 1, Kind: kinds[i], Next: 2, Other: 3}, {Id: 1, Kind: kinds[j], Next: 4, Other: 5}, {Id: 2, Kind: 'Z'}, {Id: 2, Kind: 'I', Next: 9}}
			for _, said := range []string{"1", "2", "1234", ""} {
				runs(t, l, 1, []string{said}, Run(append(slices.Clone(l[:1]), l[2:3]...), 1, []string{said}))
			}
			runs(t, l, 2, nil, ended(2, 0))
		}
	}
	stays := []api.State{{Id: 1, Kind: 'A', Next: 2}, {Id: 1, Kind: 'Z'}, {Id: 2, Kind: 'Z'}}
	runs(t, stays, 1, says("x,y,1"), ended(2, 3))
}

// P15.1: A takes 1 to 19 digits, and stays of all else.
func TestCard(t *testing.T) {
	l := row("ADIZ")
	for n := 1; n <= 40; n++ {
		for _, pan := range []string{nines(n), strings.Repeat("0", n), "0" + nines(n-1), nines(n-1) + "0", strings.Repeat("1234567890", 4)[:n]} {
			if n <= 19 {
				runs(t, l, 0, []string{pan, "7"}, asked(3, 3, pan, 7))
				runs(t, l, 0, []string{pan}, ended(1, 1))
			} else {
				runs(t, l, 0, []string{pan, "7"}, ended(1, 2))
				runs(t, l, 0, []string{pan}, ended(0, 1))
			}
		}
	}
	for _, said := range strange() {
		runs(t, l, 0, []string{said}, ended(0, 1))
		runs(t, l, 0, []string{said, said, "51", "7"}, asked(3, 5, "51", 7))
	}
	runs(t, l, 0, []string{strings.Repeat("1", 1<<20), "51", "7"}, asked(3, 4, "51", 7))
}

// P15.1: what is no card leaves the account that was there.
func TestCardThatIsNoneLeavesPan(t *testing.T) {
	l := []api.State{{Id: 0, Kind: 'A', Next: 1}, {Id: 1, Kind: 'D', Next: 2, Other: 3}, {Id: 2, Kind: 'I', Next: 9}, {Id: 3, Kind: 'A', Next: 4}, {Id: 4, Kind: 'D', Next: 2, Other: 9}}
	runs(t, l, 0, says("51,x,y,52,7"), asked(9, 6, "52", 7))
	runs(t, l, 0, says("51,x,y"), ended(3, 3))
}

// P15.1: B takes four digits to Next, and all else to Other.
func TestPin(t *testing.T) {
	l := row("B")
	for _, said := range []string{"0000", "0001", "1234", "9999", "1000"} {
		runs(t, l, 0, []string{said}, ended(1, 1))
	}
	for n := range 30 {
		if n != 4 {
			runs(t, l, 0, []string{nines(n)}, ended(90, 1))
			runs(t, l, 0, []string{strings.Repeat("0", n)}, ended(90, 1))
		}
	}
	for _, said := range strange() {
		runs(t, l, 0, []string{said}, ended(90, 1))
	}
	for at := range 4 {
		for c := range 256 {
			b := []byte("1234")
			b[at] = byte(c)
			runsAsModel(t, l, 0, []string{string(b)})
		}
	}
}

// P15.1: four digits of B are neither an account nor an amount.
func TestPinIsNoRequest(t *testing.T) {
	runs(t, row("BI"), 0, says("1234"), ended(2, 2))
	runs(t, row("ABI"), 0, says("51,1234"), ended(3, 3))
	runs(t, row("BDI"), 0, says("1234,60"), ended(3, 3))
	runs(t, row("ADBI"), 0, says("51,60,1234"), asked(4, 4, "51", 60))
}

// P15.1: D takes 1 to 7 digits to Next, and all else to Other.
func TestAmount(t *testing.T) {
	l := row("ADI")
	for _, v := range []int64{1, 2, 9, 10, 99, 100, 600, 12345, 999999, 1000000, 1000001, 9999998, 9999999} {
		s := strconv.FormatInt(v, 10)
		for ; len(s) <= 7; s = "0" + s {
			runs(t, l, 0, []string{"51", s}, asked(3, 3, "51", v))
		}
		for ; len(s) <= 20; s = "0" + s {
			runs(t, l, 0, []string{"51", s}, ended(91, 2))
		}
	}
	for n := range 30 {
		want := ended(91, 2)
		if n >= 1 && n <= 7 {
			want = ended(3, 3)
		}
		runs(t, l, 0, []string{"51", strings.Repeat("0", n)}, want)
	}
	for n := 8; n < 40; n++ {
		runs(t, l, 0, []string{"51", nines(n)}, ended(91, 2))
	}
	for _, said := range strange() {
		runs(t, l, 0, []string{"51", said}, ended(91, 2))
	}
}

// P15.1: every amount of few digits is what it says.
func TestEachSmallAmount(t *testing.T) {
	l := row("ADI")
	for v := int64(1); v < 12000; v++ {
		runs(t, l, 0, []string{"51", strconv.FormatInt(v, 10)}, asked(3, 3, "51", v))
		runs(t, l, 0, []string{"51", fmt.Sprintf("%07d", v)}, asked(3, 3, "51", v))
	}
}

// P15.1: what is no amount leaves the one that was there; 0 is one.
func TestAmountThatIsNoneLeavesAmount(t *testing.T) {
	l := []api.State{{Id: 0, Kind: 'A', Next: 1}, {Id: 1, Kind: 'D', Next: 2}, {Id: 2, Kind: 'D', Next: 3, Other: 3}, {Id: 3, Kind: 'I', Next: 9}}
	runs(t, l, 0, says("51,60,x"), asked(9, 4, "51", 60))
	runs(t, l, 0, says("51,60,12345678"), asked(9, 4, "51", 60))
	runs(t, l, 0, says("51,60,"), asked(9, 4, "51", 60))
	runs(t, l, 0, says("51,60,70"), asked(9, 4, "51", 70))
	runs(t, l, 0, says("51,60,0"), ended(9, 4))
	runs(t, l, 0, says("51,0,70"), asked(9, 4, "51", 70))
}

// P15.1: E goes to Next of "1" and to Other of "2", and stays of all else.
func TestChoice(t *testing.T) {
	l := row("E")
	runs(t, l, 0, says("1"), ended(1, 1))
	runs(t, l, 0, says("2"), ended(90, 1))
	others := append(strange(), "0", "3", "4", "5", "6", "7", "8", "9", "01", "02", "001", "11", "12", "21", "22", "10", "20", "1 ", " 1", " 2", "+2", "1234", nines(19), nines(20))
	for _, said := range others {
		runs(t, l, 0, []string{said}, ended(0, 1))
		runs(t, l, 0, []string{said, said, "1"}, ended(1, 3))
		runs(t, l, 0, []string{said, said, said, "2"}, ended(90, 4))
	}
	for c := range 256 {
		runsAsModel(t, l, 0, []string{string([]byte{byte(c)})})
	}
}

// P15.1: all inputs of up to two bytes, at each kind that takes one.
func TestShortInputs(t *testing.T) {
	short := []string{""}
	for c := range 256 {
		short = append(short, string([]byte{byte(c)}))
		for d := range 256 {
			short = append(short, string([]byte{byte(c), byte(d)}))
		}
	}
	for _, kind := range takers {
		l := row(string(kind))
		for _, said := range short {
			runsAsModel(t, l, 0, []string{said})
		}
	}
}

// P15.1: I asks where the account and the amount are there, and Amount isn't 0; it goes on without an input, asked or not.
func TestAsk(t *testing.T) {
	runs(t, row("I"), 0, nil, ended(1, 1))
	runs(t, row("I"), 0, says("51,60"), ended(1, 1))
	runs(t, row("AI"), 0, says("51"), ended(2, 2))
	runs(t, row("DI"), 0, says("60"), ended(2, 2))
	runs(t, row("ADI"), 0, says("51,0"), ended(3, 3))
	runs(t, row("ADI"), 0, says("51,0000000"), ended(3, 3))
	runs(t, row("ADI"), 0, says("51,60"), asked(3, 3, "51", 60))
	runs(t, row("DAI"), 0, says("60,51"), asked(3, 3, "51", 60))
	runs(t, row("ADI"), 0, says("0,1"), asked(3, 3, "0", 1))
	runs(t, row("ADIIII"), 0, says("51,60"), asked(6, 6, "51", 60))
	runs(t, row("IAIDI"), 0, says("51,60"), asked(5, 5, "51", 60))
	runs(t, row("ADIE"), 0, says("51,60,1"), asked(4, 4, "51", 60))
	runs(t, []api.State{{Id: 0, Kind: 'I', Next: 1, Other: 2}, {Id: 2, Kind: 'Z'}}, 0, says("2"), ended(1, 1))
}

// P15.1: the last account and the last amount ahead of I are what is asked.
func TestLastOnesAreAsked(t *testing.T) {
	runs(t, row("AADI"), 0, says("51,52,60"), asked(4, 4, "52", 60))
	runs(t, row("ADDI"), 0, says("51,60,70"), asked(4, 4, "51", 70))
	runs(t, row("ADADI"), 0, says("51,60,52,70"), asked(5, 5, "52", 70))
	runs(t, row("ADIADI"), 0, says("51,0,52,70"), asked(6, 6, "52", 70))
	runs(t, row("AIADI"), 0, says("51,52,70"), asked(5, 5, "52", 70))
	runs(t, row("DIDAI"), 0, says("60,70,52"), asked(5, 5, "52", 70))
}

// P15.1: what is typed behind the request, and a second I, change nothing of it.
func TestAskedOnce(t *testing.T) {
	runs(t, row("ADIA"), 0, says("51,60,52"), asked(4, 4, "51", 60))
	runs(t, row("ADID"), 0, says("51,60,70"), asked(4, 4, "51", 60))
	runs(t, row("ADID"), 0, says("51,60,0"), asked(4, 4, "51", 60))
	runs(t, row("ADIAI"), 0, says("51,60,52"), asked(5, 5, "51", 60))
	runs(t, row("ADIDI"), 0, says("51,60,70"), asked(5, 5, "51", 60))
	runs(t, row("ADIADI"), 0, says("51,60,52,70"), asked(6, 6, "51", 60))
	runs(t, row("ADIDIZ"), 0, says("51,60,0"), asked(5, 5, "51", 60))
}

// P15.1: Pan and Amount are "" and 0 where nothing was asked, though they were typed.
func TestNothingAskedTellsNothing(t *testing.T) {
	for _, s := range []string{"ADZ", "DAZ", "ADEZ", "ADQI", "ADZI", "AD"} {
		got := runsAsModel(t, row(s), 0, says("51,60,1,1"))
		if got.Asked || got.Pan != "" || got.Amount != 0 || got.Steps < 2 {
			t.Fatalf("%s: %+v", s, got)
		}
	}
}

// P15.1: Z ends, a state of another kind ends, and so does one that isn't there; inputs behind that say nothing.
func TestEnds(t *testing.T) {
	for _, s := range []string{"EZ", "E", "EQ", "E\x00", "Ea", "Ez", "E\xff", "EC", "E1"} {
		for n := range 120 {
			in := append(says("1"), times(n, "1")...)
			runs(t, row(s), 0, in, ended(1, 1))
			runs(t, row("I"+s), 0, in, ended(2, 2))
		}
	}
	runs(t, []api.State{{Id: 0, Kind: 'Z', Next: 1, Other: 1}, {Id: 1, Kind: 'I', Next: 2}}, 0, says("1,1"), ended(0, 0))
	runs(t, row("EE"), 0, says("1,2"), ended(91, 2))
	runs(t, row("EE"), 0, says("2,2"), ended(90, 1))
}

// P15.1: an input that is wanted and isn't there ends, at each kind that takes one, at the start and on the way.
func TestInputThatIsNotThere(t *testing.T) {
	said := map[rune]string{'A': "51", 'B': "1234", 'D': "60", 'E': "1"}
	for _, first := range takers {
		runs(t, row(string(first)+"Z"), 0, nil, ended(0, 0))
		runs(t, row(string(first)+"Z"), 0, []string{}, ended(0, 0))
		runs(t, row("I"+string(first)+"Z"), 0, nil, ended(1, 1))
		for _, then := range takers {
			l := row(string(first) + string(then) + "Z")
			runs(t, l, 0, []string{said[first]}, ended(1, 1))
			runs(t, l, 0, []string{said[first], said[then]}, ended(2, 2))
		}
	}
	runs(t, row("ADIE"), 0, says("51,60"), asked(3, 3, "51", 60))
}

// P15.1: each input is used once, in order.
func TestInputsInOrder(t *testing.T) {
	runs(t, row("AAADI"), 0, says("1,2,3,4"), asked(5, 5, "3", 4))
	runs(t, row("EEEZ"), 0, says("1"), ended(1, 1))
	runs(t, row("DDAI"), 0, says("5,6,7"), asked(4, 4, "7", 6))
}

// P15.1: at most a hundred inputs are used: those behind say nothing.
func TestMostInputs(t *testing.T) {
	for n := range 120 {
		in := append(times(n, "x"), "1", "2", "3")
		for _, kind := range "AE" {
			want := ended(1, n+1)
			if n >= mostInputs {
				want = ended(0, mostInputs)
			}
			runs(t, row(string(kind)+"Z"), 0, in, want)
		}
		want := asked(3, n+3, "1", 2)
		switch {
		case n >= mostInputs:
			want = ended(0, mostInputs)
		case n+1 >= mostInputs:
			want = ended(1, mostInputs)
		}
		runs(t, row("ADIZ"), 0, in, want)
	}
	for _, n := range []int{99, 100, 101, 200, 1000, 100000} {
		runs(t, row("A"), 0, times(n, "x"), ended(0, min(n, mostInputs)))
		runs(t, row("E"), 0, times(n, ""), ended(0, min(n, mostInputs)))
		long := row(strings.Repeat("D", 300))
		runs(t, long, 0, times(n, "1"), ended(min(n, mostInputs), min(n, mostInputs)))
	}
}

// P15.1: behind the hundredth input states that take none are still gone through.
func TestStepsBehindMostInputs(t *testing.T) {
	runs(t, row(strings.Repeat("E", 98)+"ADIIIZ"), 0, append(times(98, "1"), "51", "60"), asked(103, 103, "51", 60))
	runs(t, row(strings.Repeat("E", 99)+"ADIIIZ"), 0, append(times(99, "1"), "51", "60"), ended(100, 100))
}

// P15.1, P15.2: the 200th step ends a walk, wherever it is then: 198 to 202 steps would be gone.
func TestMostSteps(t *testing.T) {
	for n := 190; n <= 210; n++ {
		end := min(n, mostSteps)
		runs(t, row(strings.Repeat("I", n)+"Z"), 0, nil, ended(end, end))
		runs(t, row(strings.Repeat("I", n)), 0, nil, ended(end, end))
		runs(t, row(strings.Repeat("EI", n)), 0, times(100, "1"), ended(mostSteps, mostSteps))
		runs(t, row("AD"+strings.Repeat("I", n)+"Z"), 0, says("51,60"), asked(min(n+2, mostSteps), min(n+2, mostSteps), "51", 60))
	}
	runs(t, row(strings.Repeat("I", 199)+"A"), 0, says("51"), ended(200, 200))
	runs(t, row(strings.Repeat("I", 200)+"A"), 0, says("51"), ended(200, 200))
	runs(t, row(strings.Repeat("I", 199)+"E"), 0, says("2"), ended(289, 200))
	runs(t, row(strings.Repeat("I", 199)+"E"), 0, says("x"), ended(199, 200))
	runs(t, row(strings.Repeat("I", 199)+"E"), 0, says("x,1"), ended(199, 200))
}

// P15.1: what the 200th step asks is asked; behind it nothing is.
func TestAskAtTheLastStep(t *testing.T) {
	runs(t, row(strings.Repeat("I", 197)+"ADI"), 0, says("51,60"), asked(200, 200, "51", 60))
	runs(t, row(strings.Repeat("I", 198)+"ADI"), 0, says("51,60"), ended(200, 200))
}

// P15.1, P15.2: rows of states that lead to one another for ever end at the 200th step, where it leads.
func TestForEver(t *testing.T) {
	for n := 1; n <= 210; n++ {
		l := row(strings.Repeat("I", n))
		l[n-1].Next = 0
		for start := range min(n, 5) {
			runs(t, l, start, nil, ended((start+mostSteps)%n, mostSteps))
		}
	}
	alone := []api.State{{Id: 4, Kind: 'I', Next: 4, Other: 5}}
	runs(t, alone, 4, nil, ended(4, mostSteps))
	runs(t, alone, 4, times(1000, "1"), ended(4, mostSteps))
	for n := 1; n <= 110; n++ {
		l := row(strings.Repeat("E", n))
		l[n-1].Next = 0
		runs(t, l, 0, times(1000, "1"), ended(mostInputs%n, mostInputs))
		both := row(strings.Repeat("EI", n))
		both[2*n-1].Next = 0
		runs(t, both, 0, times(1000, "1"), ended(mostSteps%(2*n), mostSteps))
		three := row(strings.Repeat("EII", n))
		three[3*n-1].Next = 0
		runs(t, three, 0, times(1000, "1"), ended(mostSteps%(3*n), mostSteps))
	}
}

// P15.1: a request of a walk that goes on for ever is told all the same.
func TestForEverAsked(t *testing.T) {
	l := row("ADI")
	l[2].Next = 2
	runs(t, l, 0, says("51,60"), asked(2, mostSteps, "51", 60))
	l[2].Next = 0
	runs(t, l, 0, says("51,60,52,70"), asked(0, 6, "51", 60))
}

// P15.1: Steps counts each time that the walk went on or stayed.
func TestSteps(t *testing.T) {
	for n := range 50 {
		runs(t, row("A"), 0, append(times(n, ""), "7"), ended(1, n+1))
		runs(t, row("IIE"), 0, append(times(n, "3"), "2"), ended(92, n+3))
		back := []api.State{{Id: 0, Kind: 'B', Next: 1, Other: 0}}
		runs(t, back, 0, append(times(n, "no"), "1234"), ended(1, n+1))
		again := []api.State{{Id: 0, Kind: 'D', Next: 1, Other: 0}}
		runs(t, again, 0, append(times(n, "no"), "1234"), ended(1, n+1))
	}
}

// whyEnded answers whether a walk had to end there: by the 200th step, at a state that ends, or where an input was wanted and all were used.
func whyEnded(l []api.State, in []string, r api.Result, used int) bool {
	x, there := table.Find(l, r.At)
	if r.Steps == mostSteps || !there || strings.IndexByte("ABDEI", x.Kind) < 0 {
		return true
	}
	return x.Kind != 'I' && used == min(len(in), mostInputs)
}

// usedBy answers how many inputs a walk used.
func usedBy(l []api.State, start int, in []string) int {
	_, by := modelWalk(l, start, in)
	n := 0
	for _, v := range by {
		if v.kind != 'I' {
			n++
		}
	}
	return n
}

// P15.1, P15.2: all tables of two states of all kinds that lead to one another, aside, or nowhere, with all short inputs.
func TestSmallTables(t *testing.T) {
	var ins [][]string
	ins = append(ins, nil)
	some := []string{"1", "2", "1234", "x"}
	for _, a := range some {
		ins = append(ins, []string{a})
		for _, b := range some {
			ins = append(ins, []string{a, b}, []string{a, b, "1"}, []string{a, b, "2", "1234", "1"})
		}
	}
	var states []api.State
	for _, kind := range []byte("ABDEIZQ") {
		for next := range 3 {
			for other := range 3 {
				states = append(states, api.State{Kind: kind, Next: next, Other: other})
			}
		}
	}
	for _, a := range states {
		for _, b := range states {
			b.Id = 1
			l := []api.State{a, b}
			for _, in := range ins {
				r := runsAsModel(t, l, 0, in)
				if !whyEnded(l, in, r, usedBy(l, 0, in)) {
					t.Fatalf("%v, %q: %+v", l, in, r)
				}
			}
		}
	}
}

// input answers what may be typed, well or not.
func input(r *rand.Rand) string {
	switch r.Intn(8) {
	case 0:
		return "1"
	case 1:
		return "2"
	case 2:
		return fmt.Sprintf("%04d", r.Intn(10000))
	case 3:
		return strconv.Itoa(r.Intn(10000000))
	case 4:
		return strings.Repeat("0", r.Intn(10)) + strconv.Itoa(r.Intn(1000))
	case 5:
		return strconv.FormatUint(r.Uint64()/uint64(1+r.Intn(1000)), 10)
	case 6:
		b := []byte(nines(r.Intn(22)) + "8")
		b[r.Intn(len(b))] = byte(r.Intn(256))
		return string(b)
	}
	return ""
}

// someTable answers a table at random, with mostly the kinds that go on.
func someTable(r *rand.Rand) []api.State {
	n := 1 + r.Intn(12)
	var l []api.State
	for i := range n {
		x := api.State{Id: i, Kind: "AABDDEEIIIZQ"[r.Intn(12)], Next: r.Intn(n + 1), Other: r.Intn(n + 1)}
		if r.Intn(10) == 0 {
			x.Id = r.Intn(n)
		}
		if r.Intn(3) > 0 {
			x.Next = (i + 1) % n
		}
		l = append(l, x)
	}
	r.Shuffle(len(l), func(i, j int) { l[i], l[j] = l[j], l[i] })
	return l
}

// P15.1, P15.2: walks at random.
func TestWalksAtRandom(t *testing.T) {
	r := rand.New(rand.NewSource(151))
	seen := map[string]int{}
	for range 60000 {
		l := someTable(r)
		var in []string
		for range r.Intn(1 << r.Intn(9)) {
			in = append(in, input(r))
		}
		start := r.Intn(len(l)+2) - 1
		got := runsAsModel(t, l, start, in)
		if !whyEnded(l, in, got, usedBy(l, start, in)) {
			t.Fatalf("%v, %d, %q: %+v", l, start, in, got)
		}
		if got.Asked {
			seen["asked"]++
		}
		if got.Steps == mostSteps {
			seen["all steps"]++
		}
		if usedBy(l, start, in) == mostInputs {
			seen["all inputs"]++
		}
	}
	for _, what := range []string{"asked", "all steps", "all inputs"} {
		if seen[what] < 100 {
			t.Fatalf("%s only %d times", what, seen[what])
		}
	}
}

// P15.1: a walk with more inputs goes at least as far, and one that ended ahead of the last input ends there again.
func TestMoreInputs(t *testing.T) {
	r := rand.New(rand.NewSource(152))
	for range 3000 {
		l := someTable(r)
		var in []string
		for range r.Intn(30) {
			in = append(in, input(r))
		}
		one := Run(l, 0, in)
		more := Run(l, 0, append(slices.Clone(in), input(r)))
		if more.Steps < one.Steps || usedBy(l, 0, in) < len(in) && more != one || one.Asked && (more.Pan != one.Pan || more.Amount != one.Amount) {
			t.Fatalf("%v, %q: %+v, then %+v", l, in, one, more)
		}
	}
}

// P15.2: a walk ends, also of many states and many inputs.
func TestLongTablesEnd(t *testing.T) {
	l := row(strings.Repeat("I", 20000))
	l[19999].Next = 0
	runs(t, l, 19900, nil, ended(100, mostSteps))
	runs(t, l, 0, times(20000, "1"), ended(200, mostSteps))
}

// P15.1: DOC.md's rule 3: what is handed in stays, its spare room too.
func TestListsHandedInStay(t *testing.T) {
	l, in := row("ABDEIAZ"), says("51,1234,600,1,52,1,2,x")
	keptL, keptIn := slices.Clone(l), slices.Clone(in)
	for n := range len(l) + 1 {
		for m := range len(in) + 1 {
			Run(l[:n], 0, in[:m])
			Run(l[:n], 1, in[:m])
			if !slices.Equal(l, keptL) || !slices.Equal(in, keptIn) {
				t.Fatalf("%d, %d: %v, %q", n, m, l, in)
			}
		}
	}
	many := slices.Repeat(in, 40)
	kept := slices.Clone(many)
	Run(l, 0, many)
	if !slices.Equal(many, kept) {
		t.Fatalf("%q", many)
	}
}

// P15.1: DOC.md's rule 3: the spare room of what is handed in says nothing.
func TestSpareRoomIsNoInput(t *testing.T) {
	l, in := row("ADIZ"), says("51,60,70")
	runs(t, l, 0, in[:0], ended(0, 0))
	runs(t, l, 0, in[:1], ended(1, 1))
	runs(t, l[:0], 0, in, ended(0, 0))
	runs(t, l[:1], 0, in, ended(1, 1))
	runs(t, l[:2], 0, in, ended(2, 2))
	runs(t, l[:3], 0, in, asked(3, 3, "51", 60))
}

// P15.1: DOC.md's rule 8: the same call tells the same each time, whatever was told between, and whatever became of the lists.
func TestAnswersDoNotHangOnOthers(t *testing.T) {
	l, in := row("ADIZ"), says("51,60")
	first := Run(l, 0, in)
	for range 200 {
		runs(t, row("ADIZ"), 0, says("51,60"), first)
		runs(t, row("IZ"), 0, says("51,60"), ended(1, 1))
		runs(t, row("DIZ"), 0, says("60"), ended(2, 2))
		runs(t, row("AIZ"), 0, says("51"), ended(2, 2))
		runs(t, row("EZ"), 0, times(101, "x"), ended(0, 100))
		runs(t, row("ADIZ"), 0, says("52,70"), asked(3, 3, "52", 70))
	}
	in[0], in[1] = "7", "8"
	l[0] = api.State{}
	if first != asked(3, 3, "51", 60) {
		t.Fatalf("the answer was changed with the lists: %+v", first)
	}
}
