package money

import (
	"fmt"
	"math"
	"math/big"
	"math/rand"
	"reflect"
	"regexp"
	"slices"
	"strconv"
	"strings"
	"testing"

	"guichet/api"
)

// The chapter's numbers, said again.
const (
	mostTerms    = 8
	mostDenom    = 100000
	mostLoaded   = 10000
	mostAccounts = 64
	longestPan   = 19
	mostFunds    = 1000000000000
	mostAmount   = 1000000
	mostField    = 999999999999
)

var (
	isAccount = regexp.MustCompile(`\A[0-9]{1,19}\z`)
	isAmount  = regexp.MustCompile(`\A(-?(?:0|[1-9][0-9]*))\.([0-9]{2})\z`)
)

// modelText answers the text that an amount must have: its digits, at least three of them, with a point ahead of the last two.
func modelText(v int64) string {
	digits, below := strings.CutPrefix(strconv.FormatInt(v, 10), "-")
	for len(digits) < 3 {
		digits = "0" + digits
	}
	at := len(digits) - 2
	s := digits[:at] + "." + digits[at:]
	if below {
		s = "-" + s
	}
	return s
}

// modelParse answers the amount of a text by its pattern and a number without bounds.
func modelParse(s string) (int64, bool) {
	parts := isAmount.FindStringSubmatch(s)
	if parts == nil || s == "-0.00" {
		return 0, false
	}
	v, ok := new(big.Int).SetString(parts[1]+parts[2], 10)
	if !ok || !v.IsInt64() {
		return 0, false
	}
	return v.Int64(), true
}

// within answers whether v is one of the numbers from least to most.
func within(v, least, most int64) bool {
	return v >= least && v <= most
}

// modelRight answers what Right must, fault by fault.
func modelRight(c api.Config) bool {
	faults := 0
	count := func(bad bool) {
		if bad {
			faults++
		}
	}
	count(len(c.Terms) > mostTerms)
	for _, term := range c.Terms {
		for _, x := range term {
			count(!within(x.Denom, 1, mostDenom))
			count(!within(int64(x.Loaded), 0, mostLoaded))
			count(x.Given != 0)
			count(x.Rejected != 0)
		}
	}
	count(len(c.Funds) != len(c.Pans))
	count(len(c.Pans) > mostAccounts)
	sorted := slices.Clone(c.Pans)
	slices.Sort(sorted)
	count(len(slices.Compact(sorted)) != len(c.Pans))
	for _, pan := range c.Pans {
		count(!isAccount.MatchString(pan))
	}
	for _, v := range c.Funds {
		count(!within(v, 0, mostFunds))
	}
	count(c.Least < 1)
	count(c.Most > mostAmount)
	count(c.Least > c.Most)
	return faults == 0
}

// config answers a right configuration of so many terminals and accounts.
func config(terms, accounts int) api.Config {
	c := api.Config{Least: 500, Most: 50000}
	for i := range terms {
		var l [api.Cassettes]api.Cass
		for j := range l {
			l[j] = api.Cass{Denom: int64(500 * (j + 1)), Loaded: 100*i + j}
		}
		c.Terms = append(c.Terms, l)
	}
	for i := range accounts {
		c.Pans = append(c.Pans, strconv.Itoa(510000+i))
		c.Funds = append(c.Funds, int64(1000*i))
	}
	return c
}

// copied answers a configuration that shares nothing with c.
func copied(c api.Config) api.Config {
	c.Terms, c.Pans, c.Funds = slices.Clone(c.Terms), slices.Clone(c.Pans), slices.Clone(c.Funds)
	return c
}

// change: what a test does to a configuration.
type change func(c *api.Config)

// changed answers c with the changes made to it, one behind the other.
func changed(c api.Config, l ...change) api.Config {
	c = copied(c)
	for _, f := range l {
		f(&c)
	}
	return c
}

// rights fails the test where Right doesn't tell that of c, or c isn't as it was.
func rights(t *testing.T, c api.Config, want bool) {
	t.Helper()
	was := copied(c)
	if model := modelRight(c); model != want {
		t.Fatalf("the model of %+v: %v", c, model)
	}
	for range 2 {
		if got := Right(c); got != want {
			t.Fatalf("Right(%+v): %v", c, got)
		}
	}
	if !reflect.DeepEqual(c, was) {
		t.Fatalf("Right changed %+v to %+v", was, c)
	}
}

// checks fails the test where Check doesn't tell that.
func checks(t *testing.T, c api.Config, amount int64, want api.Errno) {
	t.Helper()
	was := copied(c)
	for range 2 {
		if e := Check(c, amount); e != want {
			t.Fatalf("Check(%+v, %d): %v", c, amount, e)
		}
	}
	if !reflect.DeepEqual(c, was) {
		t.Fatalf("Check changed %+v to %+v", was, c)
	}
}

// texts fails the test where v hasn't that text, or isn't read from it.
func texts(t *testing.T, v int64, want string) {
	t.Helper()
	if s := modelText(v); s != want {
		t.Fatalf("the model of %d: %q", v, s)
	}
	if s := Text(v); s != want {
		t.Fatalf("Text(%d): %q, not %q", v, s, want)
	}
	if got, ok := Parse(want); got != v || !ok {
		t.Fatalf("Parse(%q): %d, %v, not %d", want, got, ok, v)
	}
}

// parsesAsModel fails the test where Parse doesn't answer what it must, and answers whether s is a text.
func parsesAsModel(t *testing.T, s string) bool {
	t.Helper()
	want, wantOk := modelParse(s)
	v, ok := Parse(s)
	if v != want || ok != wantOk {
		t.Fatalf("Parse(%q): %d, %v, not %d, %v", s, v, ok, want, wantOk)
	}
	if ok && Text(v) != s {
		t.Fatalf("Parse(%q): %d, whose text is %q", s, v, Text(v))
	}
	return ok
}

// refuses fails the test where s is the text of an amount.
func refuses(t *testing.T, s string) {
	t.Helper()
	if parsesAsModel(t, s) {
		t.Fatalf("Parse(%q): true", s)
	}
}

// fields fails the test where Field doesn't tell that of v; "" is what it tells beside false.
func fields(t *testing.T, v int64, want string) {
	t.Helper()
	if s, ok := Field(v); s != want || ok != (want != "") {
		t.Fatalf("Field(%d): %q, %v, not %q", v, s, ok, want)
	}
}

// P16.1: a configuration without terminals, without accounts, of neither may be right; one of nothing has no Least.
func TestRightOfFew(t *testing.T) {
	rights(t, config(1, 1), true)
	rights(t, config(0, 1), true)
	rights(t, config(1, 0), true)
	rights(t, config(0, 0), true)
	rights(t, api.Config{}, false)
	rights(t, api.Config{Least: 1}, false)
	rights(t, api.Config{Most: 1}, false)
	rights(t, api.Config{Least: 1, Most: 1}, true)
	rights(t, api.Config{Terms: [][api.Cassettes]api.Cass{}, Pans: []string{}, Funds: []int64{}, Least: 1, Most: 1}, true)
}

// P16.1: there are at most MaxTerms terminals.
func TestRightTerms(t *testing.T) {
	for n := range 3 * mostTerms {
		rights(t, config(n, 2), n <= mostTerms)
	}
	rights(t, config(1000, 0), false)
}

// P16.1: each cassette of each terminal has a Denom of 1 to 100000, a Loaded of 0 to MaxCount, a Given and a Rejected of 0.
func TestRightCassettes(t *testing.T) {
	for _, terms := range []int{1, 2, mostTerms} {
		for at := range terms {
			for j := range api.Cassettes {
				for _, v := range []int64{math.MinInt64, -500, -1, 0, 1, 2, 500, 99999, mostDenom, mostDenom + 1, math.MaxInt32, 1<<32 + 1, math.MaxInt64} {
					c := config(terms, 1)
					c.Terms[at][j].Denom = v
					rights(t, c, within(v, 1, mostDenom))
				}
				for _, v := range []int{math.MinInt, -mostLoaded, -1, 0, 1, 9999, mostLoaded, mostLoaded + 1, 1 << 32, math.MaxInt} {
					c := config(terms, 1)
					c.Terms[at][j].Loaded = v
					rights(t, c, within(int64(v), 0, mostLoaded))
				}
				for _, v := range []int{math.MinInt, -1, 0, 1, mostLoaded, 1 << 32, math.MaxInt} {
					c := config(terms, 1)
					c.Terms[at][j].Given = v
					rights(t, c, v == 0)
					c = config(terms, 1)
					c.Terms[at][j].Rejected = v
					rights(t, c, v == 0)
				}
			}
		}
	}
}

// P16.1: cassettes are asked one by one: none makes up for another.
func TestRightCassettesTogether(t *testing.T) {
	for j := range api.Cassettes {
		for k := range api.Cassettes {
			if k == j {
				continue
			}
			c := config(2, 1)
			c.Terms[0][j].Given, c.Terms[0][k].Given = 1, -1
			rights(t, c, false)
			c = config(2, 1)
			c.Terms[1][j].Given, c.Terms[1][k].Rejected = 1, -1
			rights(t, c, false)
			c = config(2, 1)
			c.Terms[0][j].Denom, c.Terms[1][k].Denom = 0, 2
			rights(t, c, false)
			c = config(2, 1)
			c.Terms[0][j], c.Terms[0][k] = api.Cass{Denom: 1}, api.Cass{Denom: mostDenom, Loaded: mostLoaded}
			rights(t, c, true)
			c.Terms[0][k] = c.Terms[0][j]
			rights(t, c, true)
		}
		c := config(2, 1)
		c.Terms[0][j].Given, c.Terms[0][j].Rejected = 3, -3
		rights(t, c, false)
		c.Terms[0][j] = api.Cass{}
		rights(t, c, false)
	}
}

// P16.1: there are as many Funds as Pans, at most 64.
func TestRightAccounts(t *testing.T) {
	for n := range 70 {
		rights(t, config(2, n), n <= mostAccounts)
		rights(t, changed(config(2, n), func(c *api.Config) { c.Funds = append(c.Funds, 1) }), false)
		rights(t, changed(config(2, n), func(c *api.Config) { c.Pans = append(c.Pans, "77") }), false)
		if n > 0 {
			rights(t, changed(config(2, n), func(c *api.Config) { c.Funds = c.Funds[1:] }), false)
			rights(t, changed(config(2, n), func(c *api.Config) { c.Funds = nil }), false)
			rights(t, changed(config(2, n), func(c *api.Config) { c.Pans = c.Pans[1:] }), false)
			rights(t, changed(config(2, n), func(c *api.Config) { c.Pans = nil }), false)
		}
	}
	rights(t, config(0, 5000), false)
}

// P16.1: a Pan is 1 to 19 digits.
func TestRightPan(t *testing.T) {
	for n := range 30 {
		for _, digit := range "0159" {
			pan := strings.Repeat(string(digit), n)
			for at := range 3 {
				c := config(1, 3)
				c.Pans[at] = pan
				rights(t, c, n >= 1 && n <= longestPan)
			}
		}
	}
	rights(t, changed(config(1, 1), func(c *api.Config) { c.Pans[0] = strings.Repeat("1", 100000) }), false)
}

// P16.1: a sign that is no digit makes a Pan none, in each place.
func TestRightPanSigns(t *testing.T) {
	for n := 1; n <= longestPan; n++ {
		for at := range n {
			for sign := range 256 {
				pan := []byte("5123456789012345678"[:n])
				pan[at] = byte(sign)
				c := config(1, 2)
				c.Pans[1] = string(pan)
				rights(t, c, sign >= '0' && sign <= '9')
			}
		}
	}
	for _, pan := range []string{" ", "+1", "-1", "1.0", "0x1", "1_0", "1e3", "\x001", "1\n", "٣", "½", "１", "5\xff"} {
		rights(t, changed(config(1, 3), func(c *api.Config) { c.Pans[2] = pan }), false)
	}
}

// P16.1: no Pan comes twice, near or far; those that differ by noughts ahead are two.
func TestRightPanTwice(t *testing.T) {
	for i := range mostAccounts {
		for j := range mostAccounts {
			if i == j {
				continue
			}
			c := config(1, mostAccounts)
			c.Pans[j] = c.Pans[i]
			rights(t, c, false)
			c.Pans[j] = "0" + c.Pans[i]
			rights(t, c, true)
		}
	}
	c := config(1, longestPan)
	for i := range c.Pans {
		c.Pans[i] = strings.Repeat("0", i) + "7"
	}
	rights(t, c, true)
	for i := range c.Pans {
		c.Pans[i] = strings.Repeat("0", i+1)
	}
	rights(t, c, true)
	c.Pans[longestPan-1] = "00000"
	rights(t, c, false)
	for i := range c.Pans {
		c.Pans[i] = "4711"
	}
	rights(t, c, false)
	for i := range c.Pans {
		c.Pans[i] = "123456789012345678" + strconv.Itoa(i%10)
	}
	rights(t, c, false)
	rights(t, changed(c, func(c *api.Config) { c.Pans, c.Funds = c.Pans[:10], c.Funds[:10] }), true)
}

// P16.1: each of Funds is 0 to 10^12; accounts may have the same.
func TestRightFunds(t *testing.T) {
	for _, n := range []int{1, 2, mostAccounts} {
		for at := range n {
			for _, v := range []int64{math.MinInt64, -mostFunds, -1, 0, 1, mostFunds - 1, mostFunds, mostFunds + 1, 1 << 62, math.MaxInt64} {
				c := config(1, n)
				c.Funds[at] = v
				rights(t, c, within(v, 0, mostFunds))
			}
		}
	}
	c := config(1, mostAccounts)
	for i := range c.Funds {
		c.Funds[i] = mostFunds
	}
	rights(t, c, true)
}

// P16.1: Least is 1 at least, Most is MaxAmount at most, Least isn't above Most.
func TestRightLeastMost(t *testing.T) {
	edges := []int64{math.MinInt64, math.MinInt64 + 1, -mostAmount, -1, 0, 1, 2, 499, 500, 501, mostAmount - 1, mostAmount, mostAmount + 1, math.MaxInt32, 1 << 32, 1<<32 + 1, math.MaxInt64 - 1, math.MaxInt64}
	for _, least := range edges {
		for _, most := range edges {
			c := config(1, 1)
			c.Least, c.Most = least, most
			rights(t, c, least >= 1 && least <= most && most <= mostAmount)
		}
	}
}

// P16.1: several faults are no better than one, whichever they are.
func TestRightFaults(t *testing.T) {
	faults := []change{
		func(c *api.Config) { c.Terms = append(c.Terms, config(mostTerms, 0).Terms...) },
		func(c *api.Config) { c.Terms[0][0].Denom = 0 },
		func(c *api.Config) { c.Terms[1][3].Denom = mostDenom + 1 },
		func(c *api.Config) { c.Terms[0][3].Loaded = -1 },
		func(c *api.Config) { c.Terms[1][0].Loaded = mostLoaded + 1 },
		func(c *api.Config) { c.Terms[0][1].Given = 1 },
		func(c *api.Config) { c.Terms[1][2].Rejected = -1 },
		func(c *api.Config) { c.Funds = append(c.Funds, 1) },
		func(c *api.Config) { c.Pans = append(c.Pans, "88", "99") },
		func(c *api.Config) { c.Pans = append(c.Pans, config(0, mostAccounts).Pans...) },
		func(c *api.Config) { c.Pans[0] = "" },
		func(c *api.Config) { c.Pans[1] = "5x" },
		func(c *api.Config) { c.Pans[1] = strings.Repeat("9", longestPan+1) },
		func(c *api.Config) { c.Pans[2] = c.Pans[3] },
		func(c *api.Config) { c.Funds[0] = -1 },
		func(c *api.Config) { c.Funds[2] = mostFunds + 1 },
		func(c *api.Config) { c.Least = 0 },
		func(c *api.Config) { c.Most = mostAmount + 1 },
		func(c *api.Config) { c.Least, c.Most = 200, 100 },
	}
	c := config(2, 4)
	rights(t, c, true)
	for _, one := range faults {
		rights(t, changed(c, one), false)
		for _, two := range faults {
			rights(t, changed(c, one, two), false)
		}
	}
	rights(t, c, true)
}

// P16.1: configurations at random, with a fault or two, or none.
func TestRightAtRandom(t *testing.T) {
	r := rand.New(rand.NewSource(161))
	pick := func(l ...int64) int64 { return l[r.Intn(len(l))] }
	told := map[bool]int{}
	for range 20000 {
		c := config(r.Intn(mostTerms+1), r.Intn(6))
		for range r.Intn(3) {
			switch r.Intn(6) {
			case 0:
				if len(c.Terms) > 0 {
					x := &c.Terms[r.Intn(len(c.Terms))][r.Intn(api.Cassettes)]
					x.Denom = pick(-1, 0, 1, 7, mostDenom, mostDenom+1)
					x.Loaded = int(pick(-1, 0, 1, mostLoaded, mostLoaded+1))
				}
			case 1:
				if len(c.Pans) > 0 {
					c.Pans[r.Intn(len(c.Pans))] = c.Pans[r.Intn(len(c.Pans))]
				}
			case 2:
				if len(c.Pans) > 0 {
					c.Pans[r.Intn(len(c.Pans))] = strings.Repeat("0", r.Intn(22))
				}
			case 3:
				if len(c.Funds) > 0 {
					c.Funds[r.Intn(len(c.Funds))] = pick(-1, 0, mostFunds, mostFunds+1)
				}
			case 4:
				c.Least = pick(0, 1, 500, 501, mostAmount)
				c.Most = pick(0, 1, 500, 501, mostAmount, mostAmount+1)
			case 5:
				if len(c.Funds) > 0 {
					c.Funds = c.Funds[:len(c.Funds)-r.Intn(2)]
				}
			}
		}
		want := modelRight(c)
		rights(t, c, want)
		told[want]++
	}
	if told[true] < 2000 || told[false] < 2000 {
		t.Errorf("too few of one: %v", told)
	}
}

// P16.1: Check answers ErrLimit, unless the amount is Least to Most; it asks nothing else of a configuration.
func TestCheck(t *testing.T) {
	edges := []int64{math.MinInt64, math.MinInt64 + 1, -mostAmount, -501, -500, -1, 0, 1, 2, 499, 500, 501, 1999, 2000, 2001, mostAmount - 1, mostAmount, mostAmount + 1, 1 << 32, 1<<32 + 500, math.MaxInt64 - 1, math.MaxInt64}
	for _, c := range []api.Config{config(2, 3), config(0, 0), {Pans: []string{"", "x"}, Terms: config(mostTerms+1, 0).Terms}} {
		for _, c.Least = range edges {
			for _, c.Most = range edges {
				for _, amount := range edges {
					want := api.ErrLimit
					if within(amount, c.Least, c.Most) {
						want = api.OK
					}
					checks(t, c, amount, want)
				}
			}
		}
	}
	c := config(1, 1)
	c.Least, c.Most = 40, 60
	for amount := int64(-200); amount < 200; amount++ {
		want := api.OK
		if amount < 40 || amount > 60 {
			want = api.ErrLimit
		}
		checks(t, c, amount, want)
	}
}

// P16.1: ErrLimit is 34.
func TestNumberOfError(t *testing.T) {
	if e := Check(api.Config{Least: 1, Most: 1}, 2); int(e) != 34 {
		t.Errorf("ErrLimit: %d", int(e))
	}
}

// P16.2: the chapter's example, and amounts at each edge, with those below 0.
func TestText(t *testing.T) {
	for v, want := range map[int64]string{
		0: "0.00", 1: "0.01", 9: "0.09", 10: "0.10", 11: "0.11", 50: "0.50", 99: "0.99",
		100: "1.00", 101: "1.01", 199: "1.99", 200: "2.00", 999: "9.99", 1000: "10.00", 1205: "12.05",
		9999: "99.99", 10000: "100.00", 1000000: "10000.00", 1000000000000: "10000000000.00",
		math.MaxInt32: "21474836.47", math.MaxInt64: "92233720368547758.07",
	} {
		texts(t, v, want)
		if v != 0 {
			texts(t, -v, "-"+want)
		}
	}
	texts(t, math.MinInt64, "-92233720368547758.08")
	texts(t, math.MinInt64+8, "-92233720368547758.00")
	texts(t, math.MinInt64+9, "-92233720368547757.99")
	texts(t, math.MaxInt64-7, "92233720368547758.00")
	texts(t, math.MaxInt64-8, "92233720368547757.99")
}

// P16.2: all small amounts, those around each power of ten and of two, and amounts at random come back from their text.
func TestTextComesBack(t *testing.T) {
	for v := int64(-30000); v <= 30000; v++ {
		texts(t, v, modelText(v))
	}
	around := func(v int64) {
		for d := int64(-120); d <= 120; d++ {
			for _, x := range []int64{v + d, -(v + d)} {
				texts(t, x, modelText(x))
			}
		}
	}
	for v := int64(1); v <= math.MaxInt64/10; v *= 10 {
		around(v)
	}
	for shift := range 63 {
		around(1 << shift)
	}
	// Behind the greatest int64 these go on at the least one.
	around(math.MaxInt64)
	r := rand.New(rand.NewSource(162))
	for range 50000 {
		v := int64(r.Uint64()) >> r.Intn(64)
		texts(t, v, modelText(v))
	}
}

// P16.2: another text is none, also one that says the same number in another way.
func TestParseOfNoText(t *testing.T) {
	for _, s := range []string{
		"", ".", "-", "-.", "+", " ", "0", "1", "-1", "12", "1205", "-1205", "00", "000",
		".0", ".00", ".05", "-.05", "0.", "0.0", "0.000", "-0.", "12.", "12.0", "12.5", "12.050", "12.055", "12.100", "1.200",
		"00.00", "00.05", "012.05", "0012.05", "-012.05", "-00.05", "01.00", "-0.00", "-00.00", "--0.01", "-0.000",
		"+0.00", "+12.05", "+0.05", "-+1.00", "+-1.00", "--1.00", "---1.00", "1-.00", "1.-5", "1.-05", "1.0-", "1.00-", "12.+5", "1.+05",
		" 12.05", "12.05 ", "12 .05", "12. 05", "1 2.05", "12.0 5", "- 12.05", "\t1.00", "1.00\n", "\x001.00", "1.00\x00",
		"1..00", "1.0.0", "1.00.", ".1.00", "1.00.00", "..", "1.2.3", "0.0.0",
		"1,00", "1;00", "1:00", "1·00", "1'000.00", "1,000.00", "1_0.00", "0_1.00", "1.0_", "0x1.00", "1e2.00", "1.0e", "1.0a", "a.00", "1.aa", "1/.00", "1:.00", "1.0/", "1.0:",
		"NaN", "Inf", "-Inf", "٣.00", "１.00", "1.٠٠", "1.0\xff", "\xff1.00", "−1.00",
		"92233720368547758.08", "-92233720368547758.09", "92233720368547759.00", "-92233720368547759.00", "92233720368547760.00", "99999999999999999.99", "-99999999999999999.99",
		"100000000000000000.00", "-100000000000000000.00", "922337203685477580.07", "184467440737095516.16", "184467440737095516.15", "184467440737095517.21", "-184467440737095517.21",
		"999999999999999999.99", "1000000000000000000.00", "18446744073709551616.00", "18446744073709551617.05", "99999999999999999999999999.99", "000000000000000000001.00",
		"1.000000000000000000", "1.0000000000000000000", "0.999999999999999999", "0.1000000000000000000000",
	} {
		refuses(t, s)
	}
	for _, n := range []int{17, 18, 19, 20, 100, 100000} {
		refuses(t, strings.Repeat("9", n)+".00")
		refuses(t, "-"+strings.Repeat("9", n)+".00")
		refuses(t, strings.Repeat("0", n)+".00")
		refuses(t, "1."+strings.Repeat("0", n))
		refuses(t, strings.Repeat("-", n)+"1.00")
		refuses(t, strings.Repeat(".", n))
		refuses(t, strings.Repeat("1", n))
	}
}

// P16.2: a text with each sign changed, taken out, put in, and two exchanged, at each place, is read just where it is a text again.
func TestParseOfChangedText(t *testing.T) {
	read := 0
	parse := func(s string) {
		if parsesAsModel(t, s) {
			read++
		}
	}
	for _, v := range []int64{0, 1, 9, 10, 99, 100, 101, 1205, -1, -9, -10, -99, -100, -101, -1205, 100000, -100000, mostField, math.MaxInt64, math.MinInt64, math.MaxInt64 - 7, math.MinInt64 + 8} {
		s := Text(v)
		for at := range len(s) {
			parse(s[:at])
			parse(s[at:])
			parse(s[:at] + s[at+1:])
			for to := range at {
				b := []byte(s)
				b[at], b[to] = b[to], b[at]
				parse(string(b))
			}
			for sign := range 256 {
				b := []byte(s)
				b[at] = byte(sign)
				parse(string(b))
			}
		}
		for at := range len(s) + 1 {
			for sign := range 256 {
				parse(s[:at] + string([]byte{byte(sign)}) + s[at:])
			}
		}
	}
	if read < 1000 {
		t.Errorf("only %d were texts again", read)
	}
}

// P16.2: all texts of up to six of the signs that an amount may have, and one more.
func TestParseOfAllShort(t *testing.T) {
	const signs = "0129.-+"
	read := 0
	texts := []string{""}
	for range 6 {
		var longer []string
		for _, s := range texts {
			for _, sign := range signs {
				longer = append(longer, s+string(sign))
			}
		}
		for _, s := range longer {
			if parsesAsModel(t, s) {
				read++
			}
		}
		texts = longer
	}
	// 4, 3*4 and 3*4*4 whole parts with 16 parts behind, each but 0.00 with a minus ahead where there is room.
	if want := 16*(4+12+48) + 16*(4+12) - 1; read != want {
		t.Errorf("%d were texts, not %d", read, want)
	}
}

// P16.2: texts at random, about the width of an int64.
func TestParseAtRandom(t *testing.T) {
	r := rand.New(rand.NewSource(163))
	told := map[bool]int{}
	for range 50000 {
		v := new(big.Int).Rand(r, new(big.Int).Lsh(big.NewInt(1), uint(60+r.Intn(6))))
		v.Add(v, big.NewInt(1000))
		digits := v.String()
		at := len(digits) - 2
		s := digits[:at] + "." + digits[at:]
		if r.Intn(2) == 0 {
			s = "-" + s
		}
		told[parsesAsModel(t, s)]++
	}
	if told[true] < 5000 || told[false] < 5000 {
		t.Errorf("too few of one: %v", told)
	}
	most, least := big.NewInt(math.MaxInt64), big.NewInt(math.MinInt64)
	for d := range int64(300) {
		for _, v := range []*big.Int{new(big.Int).Add(most, big.NewInt(d)), new(big.Int).Sub(least, big.NewInt(d))} {
			digits := v.String()
			at := len(digits) - 2
			if got := parsesAsModel(t, digits[:at]+"."+digits[at:]); got != (d == 0) {
				t.Errorf("%v: %v", v, got)
			}
		}
	}
}

// P16.2: Field is twelve digits, and none where v hasn't room in them or is below 0.
func TestField(t *testing.T) {
	fields(t, 0, "000000000000")
	fields(t, 1, "000000000001")
	fields(t, 1205, "000000001205")
	fields(t, 500, "000000000500")
	fields(t, mostAmount, "000001000000")
	fields(t, 123456789012, "123456789012")
	fields(t, 99999999999, "099999999999")
	fields(t, 100000000000, "100000000000")
	fields(t, mostField-1, "999999999998")
	fields(t, mostField, "999999999999")
	for _, v := range []int64{mostField + 1, mostField + 2, 9999999999999, 1000000001205, 1 << 62, math.MaxInt64 - 1, math.MaxInt64, -1, -2, -9, -10, -1205, -mostField, -mostField - 1, math.MinInt64 + 1, math.MinInt64} {
		fields(t, v, "")
	}
	r := rand.New(rand.NewSource(164))
	for range 50000 {
		v := int64(r.Uint64()) >> r.Intn(64)
		want := ""
		if within(v, 0, mostField) {
			want = fmt.Sprintf("%012d", v)
		}
		fields(t, v, want)
	}
}

// P16.3: what Check lets through of a right configuration is 1 to MaxAmount, and a host's message has room for it.
func TestTooMuchIsAskedOfNobody(t *testing.T) {
	r := rand.New(rand.NewSource(165))
	passed := 0
	for range 20000 {
		c := config(1, 1)
		c.Least, c.Most = r.Int63n(mostAmount+10)-5, r.Int63n(mostAmount+10)
		if r.Intn(4) == 0 {
			c.Most = mostAmount + r.Int63n(3) - 1
		}
		if !Right(c) {
			continue
		}
		for _, amount := range []int64{r.Int63n(2 * mostAmount), -r.Int63n(mostAmount), c.Least, c.Most, c.Least - 1, c.Most + 1, mostAmount, mostAmount + 1, 0, math.MaxInt64, math.MinInt64} {
			if Check(c, amount) != api.OK {
				continue
			}
			passed++
			if !within(amount, 1, mostAmount) || amount < c.Least || amount > c.Most {
				t.Fatalf("Check(%d to %d, %d): OK", c.Least, c.Most, amount)
			}
			if _, ok := Field(amount); !ok {
				t.Fatalf("Field(%d): false", amount)
			}
		}
	}
	if passed < 5000 {
		t.Errorf("only %d amounts passed", passed)
	}
}

// P16.1 with DOC.md's rules: the spare room behind the lists is neither read nor changed, and nothing is kept.
func TestListsStayAsTheyWere(t *testing.T) {
	c := config(mostTerms+3, mostAccounts+3)
	for i := mostTerms; i < len(c.Terms); i++ {
		c.Terms[i][0].Denom = -1
	}
	for i := mostAccounts; i < len(c.Pans); i++ {
		c.Pans[i], c.Funds[i] = c.Pans[0], -1
	}
	was := copied(c)
	short := c
	short.Terms, short.Pans, short.Funds = c.Terms[:mostTerms], c.Pans[:mostAccounts], c.Funds[:mostAccounts]
	rights(t, short, true)
	checks(t, short, short.Least, api.OK)
	checks(t, short, short.Most+1, api.ErrLimit)
	if !reflect.DeepEqual(c, was) {
		t.Error("the spare room was changed")
	}
	short.Pans[1] = short.Pans[2]
	rights(t, short, false)
	short.Pans[1] = "1"
	rights(t, short, true)
	rights(t, was, false)
}

// P16.1, P16.2 with DOC.md's rules: an answer doesn't hang on the answers ahead of it.
func TestAnswersDontHangOnOthers(t *testing.T) {
	good, bad := config(1, 3), changed(config(1, 3), func(c *api.Config) { c.Pans[2] = c.Pans[0] })
	for range 3 {
		rights(t, good, true)
		rights(t, bad, false)
		texts(t, 1205, "12.05")
		refuses(t, "-0.00")
		texts(t, math.MinInt64, "-92233720368547758.08")
		fields(t, mostField+1, "")
		fields(t, 7, "000000000007")
		checks(t, good, 0, api.ErrLimit)
		checks(t, bad, 500, api.OK)
	}
}
