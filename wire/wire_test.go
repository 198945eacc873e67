package wire

import (
	"bytes"
	"math/rand"
	"slices"
	"strings"
	"testing"
)

// The chapter's numbers, said again.
const (
	sep    = "\x1c"
	begin  = "\x02"
	end    = "\x03"
	limit  = 500
	around = 3
)

// parity answers what Lrc must: each bit by whether an odd number of bytes has it.
func parity(b []byte) byte {
	var out byte
	for bit := range 8 {
		count := 0
		for _, c := range b {
			if int(c)/(1<<bit)%2 == 1 {
				count++
			}
		}
		out += byte(count % 2 * (1 << bit))
	}
	return out
}

// framed answers a frame of s, be it right or not, with its sum.
func framed(s string) string {
	return begin + s + end + string([]byte{parity([]byte(s + end))})
}

// badly answers a frame of s with a sum that isn't its own.
func badly(s string, sum byte) string {
	b := []byte(framed(s))
	if b[len(b)-1] == sum {
		sum ^= 0x40
	}
	b[len(b)-1] = sum
	return string(b)
}

// unframed answers what Unframe must: the first ETX whose nearest mark ahead is an STX, with all that a frame needs.
func unframed(s string) (string, int, bool) {
	for at := range len(s) {
		if s[at] != end[0] {
			continue
		}
		from := strings.LastIndexAny(s[:at], begin+end)
		if from < 0 || s[from] != begin[0] || at-from-1 > limit {
			continue
		}
		if size := at - from + 2; strings.HasPrefix(s[from:], framed(s[from+1:at])) {
			return s[from+1 : at], from + size, true
		}
	}
	return "", 0, false
}

// anyOf answers n bytes at random, of those of alphabet.
func anyOf(r *rand.Rand, alphabet string, n int) string {
	out := make([]byte, n)
	for i := range out {
		out[i] = alphabet[r.Intn(len(alphabet))]
	}
	return string(out)
}

// plain answers n bytes at random, with none that is a mark.
func plain(r *rand.Rand, n int) string {
	out := make([]byte, n)
	for i := range out {
		for out[i] = byte(r.Intn(256)); out[i] == begin[0] || out[i] == end[0]; out[i] = byte(r.Intn(256)) {
		}
	}
	return string(out)
}

// asksSplit fails the test where the parts of s aren't want, or don't make s again.
func asksSplit(t *testing.T, s string, want ...string) {
	t.Helper()
	got := Split([]byte(s))
	if !slices.Equal(got, want) {
		t.Fatalf("Split(%q): %q, not %q", s, got, want)
	}
	if b, ok := Join(got); !ok || string(b) != s {
		t.Fatalf("Join(%q): %q, %v", got, b, ok)
	}
}

// asksJoin fails the test where l doesn't make want, or want has other parts than l.
func asksJoin(t *testing.T, want string, l ...string) {
	t.Helper()
	b, ok := Join(l)
	if !ok || string(b) != want {
		t.Fatalf("Join(%q): %q, %v, not %q", l, b, ok, want)
	}
	if got := Split(b); !slices.Equal(got, l) {
		t.Fatalf("Split(%q): %q, not %q", b, got, l)
	}
}

// refusesJoin fails the test where l makes bytes, or there are some beside false.
func refusesJoin(t *testing.T, l ...string) {
	t.Helper()
	if b, ok := Join(l); ok || len(b) != 0 {
		t.Fatalf("Join(%q): %q, %v", l, b, ok)
	}
}

// asksFrame fails the test where s has no frame, another one, or one that doesn't come back.
func asksFrame(t *testing.T, s string) {
	t.Helper()
	want := framed(s)
	if b, ok := Frame([]byte(s)); !ok || string(b) != want {
		t.Fatalf("Frame(%q): %q, %v, not %q", s, b, ok, want)
	}
	asksUnframe(t, want, s, len(s)+around)
}

// refusesFrame fails the test where s has a frame, or there is one beside false.
func refusesFrame(t *testing.T, s string) {
	t.Helper()
	if b, ok := Frame([]byte(s)); ok || len(b) != 0 {
		t.Fatalf("Frame(%q): %q, %v", s, b, ok)
	}
}

// asksUnframe fails the test where the first good frame of s isn't want's, or others than n bytes are taken.
func asksUnframe(t *testing.T, s, want string, n int) {
	t.Helper()
	if got, took, ok := Unframe([]byte(s)); !ok || string(got) != want || took != n {
		t.Fatalf("Unframe(%q): %q, %d, %v, not %q, %d", s, got, took, ok, want, n)
	}
}

// findsNone fails the test where s has a good frame, or there is something beside false.
func findsNone(t *testing.T, s string) {
	t.Helper()
	if got, took, ok := Unframe([]byte(s)); ok || took != 0 || len(got) != 0 {
		t.Fatalf("Unframe(%q): %q, %d, %v", s, got, took, ok)
	}
}

// asksModel fails the test where Unframe doesn't answer what it must.
func asksModel(t *testing.T, s string) {
	t.Helper()
	if want, n, ok := unframed(s); ok {
		asksUnframe(t, s, want, n)
	} else {
		findsNone(t, s)
	}
}

// P11.1
func TestSplit(t *testing.T) {
	if got := Split(nil); !slices.Equal(got, []string{""}) {
		t.Errorf("Split(nil): %q", got)
	}
	asksSplit(t, "", "")
	asksSplit(t, "a", "a")
	asksSplit(t, "abc", "abc")
	asksSplit(t, sep, "", "")
	asksSplit(t, sep+sep, "", "", "")
	asksSplit(t, "ab"+sep+"c", "ab", "c")
	asksSplit(t, sep+"ab", "", "ab")
	asksSplit(t, "ab"+sep, "ab", "")
	asksSplit(t, "a"+sep+sep+"b", "a", "", "b")
	asksSplit(t, sep+"a"+sep+sep+"bc"+sep, "", "a", "", "bc", "")
	asksSplit(t, "12"+sep+"3", "12", "3")
	asksSplit(t, "\x00\xff\x02"+sep+"\x03\n é", "\x00\xff\x02", "\x03\n é")
}

// P11.1: no other byte stands between parts.
func TestSplitByEachByte(t *testing.T) {
	for c := range 256 {
		s := "a" + string([]byte{byte(c)}) + "b"
		if string([]byte{byte(c)}) == sep {
			asksSplit(t, s, "a", "b")
		} else {
			asksSplit(t, s, s)
		}
	}
}

// P11.1
func TestJoin(t *testing.T) {
	asksJoin(t, "", "")
	asksJoin(t, sep, "", "")
	asksJoin(t, sep+sep, "", "", "")
	asksJoin(t, "a", "a")
	asksJoin(t, "a"+sep+"b", "a", "b")
	asksJoin(t, sep+"b", "", "b")
	asksJoin(t, "a"+sep, "a", "")
	asksJoin(t, "a"+sep+sep+"b", "a", "", "b")
	asksJoin(t, sep+"a"+sep+sep+"bc"+sep, "", "a", "", "bc", "")
	asksJoin(t, "\x02\x03\x00"+sep+"\xff", "\x02\x03\x00", "\xff")
}

// P11.1
func TestJoinRefuses(t *testing.T) {
	if b, ok := Join(nil); ok || len(b) != 0 {
		t.Errorf("Join(nil): %q, %v", b, ok)
	}
	refusesJoin(t, []string{}...)
	for _, part := range []string{sep, sep + "a", "a" + sep, "a" + sep + "b", sep + sep, strings.Repeat("x", 1000) + sep} {
		refusesJoin(t, part)
		refusesJoin(t, part, "a")
		refusesJoin(t, "a", part)
		refusesJoin(t, "", part)
		refusesJoin(t, part, "")
		refusesJoin(t, "a", part, "b")
		refusesJoin(t, "a", "b", "", part)
		refusesJoin(t, part, part)
	}
}

// P11.1: each other byte may stand in a part, those whose last bits are the separator's among them.
func TestJoinOfEachByte(t *testing.T) {
	for c := range 256 {
		for _, form := range []string{"?", "?ab", "a?b", "ab?"} {
			part := strings.ReplaceAll(form, "?", string([]byte{byte(c)}))
			if c == int(sep[0]) {
				refusesJoin(t, part)
				refusesJoin(t, "a", part)
			} else {
				asksJoin(t, part, part)
				asksJoin(t, part+sep+"a"+sep+part, part, "a", part)
			}
		}
	}
}

// P11.1: against the library, and there and back.
func TestPartsAtRandom(t *testing.T) {
	r := rand.New(rand.NewSource(11))
	for range 5000 {
		s := anyOf(r, "a\x02\x03\x1b\x1d\xff\x3c\x9c\x00"+sep+sep+sep, r.Intn(40))
		l := strings.Split(s, sep)
		if len(l) != strings.Count(s, sep)+1 {
			t.Fatal("the library")
		}
		asksSplit(t, s, l...)
		asksJoin(t, s, l...)
	}
}

// P11.1: many parts, and long ones.
func TestPartsOfManyBytes(t *testing.T) {
	many := slices.Repeat([]string{"", "ab"}, 50000)
	asksJoin(t, strings.Join(many, sep), many...)
	long := strings.Repeat("x", 100000)
	asksJoin(t, long+sep+sep+long, long, "", long)
	refusesJoin(t, append(many, sep)...)
}

// P11.1
func TestLrc(t *testing.T) {
	for _, x := range []struct {
		s    string
		want byte
	}{
		{"", 0}, {"\x00", 0}, {"a", 'a'}, {"\xff", 0xff}, {"\x80", 0x80}, {"aa", 0}, {"\xff\xff", 0}, {"aba", 'b'}, {"aab", 'b'},
		{"\x01\x02\x04\x08\x10\x20\x40\x80", 0xff}, {"\x0f\xf0", 0xff}, {"\xff\x0f", 0xf0}, {"\x03\x03\x03", 3}, {"\x00\x00\x01", 1},
	} {
		if got := Lrc([]byte(x.s)); got != x.want {
			t.Errorf("Lrc(%q): %d, not %d", x.s, got, x.want)
		}
	}
	if got := Lrc(nil); got != 0 {
		t.Errorf("Lrc(nil): %d", got)
	}
}

// P11.1: each two bytes, and many, bit by bit.
func TestLrcBitByBit(t *testing.T) {
	for i := range 1 << 16 {
		b := []byte{byte(i >> 8), byte(i)}
		if got, want := Lrc(b), parity(b); got != want {
			t.Fatalf("Lrc(%q): %d, not %d", b, got, want)
		}
	}
	r := rand.New(rand.NewSource(1))
	for range 1000 {
		b := make([]byte, r.Intn(2000))
		r.Read(b)
		if got, want := Lrc(b), parity(b); got != want {
			t.Fatalf("Lrc of %d bytes: %d, not %d", len(b), got, want)
		}
	}
}

// P11.2: the chapter's example, and others written out.
func TestFrame(t *testing.T) {
	for s, want := range map[string]string{
		"x": "\x02x\x03{", "": "\x02\x03\x03", "ab": "\x02ab\x03\x00", "\x01": "\x02\x01\x03\x02", "\x00": "\x02\x00\x03\x03", "\x1c": "\x02\x1c\x03\x1f", "\xff": "\x02\xff\x03\xfc",
	} {
		if got, ok := Frame([]byte(s)); !ok || string(got) != want {
			t.Errorf("Frame(%q): %q, %v", s, got, ok)
		}
		asksFrame(t, s)
	}
	if got, ok := Frame(nil); !ok || string(got) != "\x02\x03\x03" {
		t.Errorf("Frame(nil): %q, %v", got, ok)
	}
}

// P11.2: lengths up to the limit, and behind it.
func TestFrameOfEachLength(t *testing.T) {
	r := rand.New(rand.NewSource(500))
	for n := range limit + 1 {
		asksFrame(t, plain(r, n))
		asksFrame(t, strings.Repeat("x", n))
	}
	for _, n := range []int{limit + 1, limit + 2, 512, 600, 65536, 65536 + limit, 100000} {
		refusesFrame(t, plain(r, n))
		refusesFrame(t, strings.Repeat("x", n))
	}
}

// P11.2: each byte at each place, those whose last bits are a mark's among them.
func TestFrameOfEachByte(t *testing.T) {
	for c := range 256 {
		for at := range 5 {
			b := []byte("abcde")
			b[at] = byte(c)
			if c == int(begin[0]) || c == int(end[0]) {
				refusesFrame(t, string(b))
			} else {
				asksFrame(t, string(b))
			}
		}
	}
}

// P11.2: a mark at each place of the longest bytes.
func TestFrameRefusesMarks(t *testing.T) {
	refusesFrame(t, begin)
	refusesFrame(t, end)
	refusesFrame(t, framed("x"))
	for at := range limit {
		for _, mark := range []string{begin, end} {
			refusesFrame(t, strings.Repeat("y", at)+mark+strings.Repeat("y", limit-at-1))
		}
	}
}

// P11.2: with what begins no frame ahead, and anything behind.
func TestUnframeAmongOthers(t *testing.T) {
	for _, s := range []string{"", "x", "ab", "\x01", "\x1c", strings.Repeat("x", limit)} {
		f := framed(s)
		for _, ahead := range []string{"", "z", "zz", end, end + end, end + "\x00", "\x00", "\xff", "\x82\x83", strings.Repeat("z", 1000)} {
			for _, behind := range []string{"", "z", begin, end, begin + end, f, "\xff", strings.Repeat("z", 1000)} {
				asksUnframe(t, ahead+f+behind, s, len(ahead)+len(f))
			}
		}
	}
}

// P11.2
func TestUnframeFindsNone(t *testing.T) {
	if got, took, ok := Unframe(nil); ok || took != 0 || len(got) != 0 {
		t.Errorf("Unframe(nil): %q, %d, %v", got, took, ok)
	}
	for _, s := range []string{
		"", "a", begin, end, begin + begin, end + end, begin + end, end + begin, end + end + end, begin + "ab", begin + "ab" + end, "ab" + end + "\x00",
		begin + "ab" + end + "x", begin + end + begin, begin + end + "\x00", begin + "x" + end + "x", begin + "x" + end + "\x02", end + "\x03\x03", "\x01" + end + "\x02",
	} {
		findsNone(t, s)
	}
}

// P11.2: what is cut off is none, at each length.
func TestUnframeOfWhatIsCut(t *testing.T) {
	for _, s := range []string{"", "x", "ab", "\x01", strings.Repeat("x", limit)} {
		f := framed(s)
		for n := range len(f) {
			findsNone(t, f[:n])
			findsNone(t, "zz"+end+f[:n])
			if n > 0 {
				findsNone(t, f[n:])
			}
		}
	}
}

// P11.2: each byte changed to each other one, in each place.
func TestUnframeOfWhatIsChanged(t *testing.T) {
	for _, s := range []string{"", "x", "ab", "\x01", "12\x1c3"} {
		f := framed(s)
		for at := range len(f) {
			for c := range 256 {
				b := []byte(f)
				b[at] = byte(c)
				asksModel(t, string(b))
				if last := at == len(f)-1; last && b[at] != f[at] {
					findsNone(t, string(b))
				}
				asksModel(t, string(b)+framed("c"))
			}
		}
	}
}

// P11.2: an STX begins anew, so the sum goes from the last one on.
func TestUnframeBeginsAnew(t *testing.T) {
	asksUnframe(t, begin+framed("ab"), "ab", 6)
	asksUnframe(t, begin+"x"+framed("ab"), "ab", 7)
	asksUnframe(t, begin+begin+begin+framed(""), "", 6)
	asksUnframe(t, begin+strings.Repeat("x", 1000)+framed("ab"), "ab", 1006)
	for at := range 6 {
		s := "abcdef"
		whole := framed(s[:at] + begin + s[at:])
		findsNone(t, whole)
		asksUnframe(t, begin+s[:at]+framed(s[at:]), s[at:], 1+at+len(framed(s[at:])))
	}
}

// P11.2: an ETX ends what was begun, and says nothing where nothing was.
func TestUnframeEnds(t *testing.T) {
	findsNone(t, "ab"+end+"\x00")
	asksUnframe(t, end+framed("ab"), "ab", 6)
	asksUnframe(t, end+end+"x"+end+framed("ab"), "ab", 9)
	// Behind a bad end nothing is begun: another end with what would be its sum is none.
	findsNone(t, begin+"a"+end+"d"+end+string([]byte{parity([]byte("a\x03d\x03"))}))
	findsNone(t, begin+"a"+end+"d"+end+string([]byte{parity([]byte("d\x03"))}))
	findsNone(t, begin+"a"+end+end+string([]byte{parity([]byte("a\x03\x03"))}))
	findsNone(t, begin+"a"+end+end+string([]byte{parity([]byte("a\x03"))}))
	for at := range 6 {
		s := "acegik"
		findsNone(t, framed(s[:at]+end+s[at:]))
	}
}

// P11.2: a sum that is a mark itself is a sum, where the frame is good.
func TestUnframeOfSumsThatAreMarks(t *testing.T) {
	if f := framed("\x01"); f != "\x02\x01\x03\x02" {
		t.Fatalf("%q", f)
	}
	asksFrame(t, "\x01")
	asksUnframe(t, framed("\x01")+"x", "\x01", 4)
	asksUnframe(t, framed("\x01")+end+"\x03", "\x01", 4)
	asksFrame(t, "aa")
	asksUnframe(t, framed("aa")+framed("c"), "aa", 5)
	asksUnframe(t, framed("")+end+"\x03", "", 3)
	asksUnframe(t, "x"+framed("")+framed("c"), "", 4)
}

// P11.2, P11.3: a sum that is a mark, of a frame that isn't good, is the next byte to be gone through.
func TestUnframeGoesOnBehindTheEnd(t *testing.T) {
	asksUnframe(t, begin+"ab"+end+framed("c"), "c", 8)
	asksUnframe(t, begin+"ab"+end+framed(""), "", 7)
	asksUnframe(t, begin+end+framed("c"), "c", 6)
	asksUnframe(t, begin+"ab"+end+end+framed("c"), "c", 9)
	asksUnframe(t, begin+"ab"+end+"x"+framed("c"), "c", 9)
	asksUnframe(t, begin+"ab"+end+begin+"cd"+end+framed("e"), "e", 12)
	asksUnframe(t, begin+"ab"+end+framed("\x01")+"c", "\x01", 8)
}

// P11.2: at the limit, and one behind it.
func TestUnframeAtTheLimit(t *testing.T) {
	r := rand.New(rand.NewSource(501))
	for range 50 {
		most, more := plain(r, limit), plain(r, limit+1)
		asksUnframe(t, framed(most), most, limit+around)
		findsNone(t, framed(more))
		findsNone(t, badly(most, 'x'))
		asksUnframe(t, "ab"+framed(most)+framed("c"), most, 2+limit+around)
		for _, n := range []int{limit + 1, limit + 2, limit + 256, 1 << 16, 1<<16 + 1, 1<<16 + limit} {
			s := framed(plain(r, n))
			findsNone(t, s)
			if s[len(s)-1] != begin[0] {
				asksUnframe(t, s+framed("c"), "c", len(s)+4)
			}
			asksModel(t, s+framed("c"))
		}
	}
	// The sum of bytes that are too many may be a mark: it begins a frame then.
	over := strings.Repeat("y", limit) + "\x01"
	if f := framed(over); f[len(f)-1:] != begin {
		t.Fatal("the sum is no mark")
	}
	asksUnframe(t, framed(over)+"c"+end+"`", "c", limit+1+around+3)
	findsNone(t, framed(over))
}

// P11.2: all short bytes of marks, and of what may be their sums.
func TestUnframeOfAllShortBytes(t *testing.T) {
	const alphabet = "\x00\x01\x02\x03a"
	b := make([]byte, 0, 8)
	var all func(n int)
	all = func(n int) {
		asksModel(t, string(b))
		if n == 0 {
			return
		}
		for i := range len(alphabet) {
			b = append(b, alphabet[i])
			all(n - 1)
			b = b[:len(b)-1]
		}
	}
	all(7)
}

// P11.2: long bytes at random, some of them good frames.
func TestUnframeAtRandom(t *testing.T) {
	r := rand.New(rand.NewSource(12))
	found := 0
	for range 20000 {
		s := ""
		for range r.Intn(6) {
			switch body := anyOf(r, "\x00\x01ab\x1c\xff", r.Intn(6)); r.Intn(4) {
			case 0:
				s += framed(body)
			case 1:
				s += badly(body, byte(r.Intn(256)))
			case 2:
				s += anyOf(r, begin+end+"ab\x00", r.Intn(8))
			case 3:
				s += framed(body)[:r.Intn(len(body)+around)]
			}
		}
		asksModel(t, s)
		if _, _, ok := unframed(s); ok {
			found++
		}
	}
	if found < 5000 || found > 15000 {
		t.Errorf("%d of 20000 had one", found)
	}
}

// P11.3: whatever bad frame stands ahead, the good one is found, unless its STX was the sum that the other one lacked.
func TestBadFramesHideNone(t *testing.T) {
	r := rand.New(rand.NewSource(13))
	hidden := 0
	for range 30000 {
		bad := ""
		for range 1 + r.Intn(4) {
			switch body := plain(r, r.Intn(10)); r.Intn(5) {
			case 0:
				bad += badly(body, byte(r.Intn(256)))
			case 1:
				bad += framed(body)[:r.Intn(len(body)+around)]
			case 2:
				bad += framed(body)[1:]
			case 3:
				bad += badly(body, begin[0])
			case 4:
				bad += framed(plain(r, limit+1+r.Intn(3)))
			}
		}
		if _, _, ok := unframed(bad + begin); ok {
			hidden++
			continue
		}
		good := plain(r, r.Intn(20))
		asksUnframe(t, bad+framed(good), good, len(bad)+len(good)+around)
	}
	if hidden > 3000 {
		t.Errorf("%d had a good one among the bad ones", hidden)
	}
}

// P11.3: taken one behind the other, all good ones among bad ones come, in their order.
func TestAllGoodFramesCome(t *testing.T) {
	r := rand.New(rand.NewSource(14))
	for range 500 {
		var want, got []string
		s := ""
		for range r.Intn(20) {
			body := anyOf(r, "abc123\x1c", 1+r.Intn(8))
			if r.Intn(2) == 0 {
				s += framed(body)
				want = append(want, body)
			} else {
				s += badly(body, 'z') + end + begin
			}
		}
		for rest := s; ; {
			b, took, ok := Unframe([]byte(rest))
			if !ok {
				break
			}
			got = append(got, string(b))
			rest = rest[took:]
		}
		if !slices.Equal(got, want) {
			t.Fatalf("%q: %q, not %q", s, got, want)
		}
	}
}

// spare is how much room stands behind what is handed in.
const spare = 64

// roomy answers s with spare room behind it, and all of the memory that it lies in.
func roomy(s string) ([]byte, []byte) {
	all := append([]byte(s), bytes.Repeat([]byte("-"), spare)...)
	return all[:len(s):len(all)], all
}

// asksMemory fails the test where a call changes what it is handed, or answers memory of it.
func asksMemory(t *testing.T, s string, call func(b []byte) []byte) {
	t.Helper()
	b, all := roomy(s)
	before := string(all)
	got := call(b)
	answer := string(got)
	if string(all) != before {
		t.Fatalf("%q was changed to %q", before, all)
	}
	for i := range all {
		all[i] = '+'
	}
	if string(got) != answer {
		t.Fatalf("of %q: %q, then %q", s, answer, got)
	}
	got = got[:cap(got)]
	for i := range got {
		got[i] = '*'
	}
	if string(all) != strings.Repeat("+", len(all)) {
		t.Fatalf("of %q: the answer is memory of it", s)
	}
}

// P11.1, P11.2: DOC.md's rule 3, of all calls that are handed bytes.
func TestBytesHandedInStay(t *testing.T) {
	for _, s := range []string{"", "x", "ab", "a\x1cb", sep, framed("ab"), framed(""), "zz" + framed("ab") + "zz", framed("\x01"), framed(strings.Repeat("x", limit)), begin + "ab", "z" + end, strings.Repeat("x", limit), strings.Repeat("x", limit+1)} {
		asksMemory(t, s, func(b []byte) []byte {
			got, _ := Frame(b)
			return got
		})
		asksMemory(t, s, func(b []byte) []byte {
			got, _, _ := Unframe(b)
			return got
		})
		asksMemory(t, s, func(b []byte) []byte { return []byte{Lrc(b)} })
		asksMemory(t, s, func(b []byte) []byte {
			Split(b)
			return nil
		})
	}
}

// P11.1: the parts stay when the bytes that they were split from are changed.
func TestPartsStay(t *testing.T) {
	b, all := roomy("abc" + sep + sep + "de" + sep + "f")
	got := Split(b)
	for i := range all {
		all[i] = '+'
	}
	if want := []string{"abc", "", "de", "f"}; !slices.Equal(got, want) {
		t.Errorf("%q, not %q", got, want)
	}
}

// P11.1: a list that is handed in is neither changed nor kept, its spare room included.
func TestListsHandedInStay(t *testing.T) {
	for _, n := range []int{0, 1, 2, 3, 5} {
		all := []string{"a", "", "bc", "d" + sep, "e", "f"}
		before := slices.Clone(all)
		first, ok := Join(all[:n])
		if !slices.Equal(all, before) {
			t.Fatalf("%d: %q", n, all)
		}
		told := string(first)
		second, again := Join(all[:n])
		for i := range second {
			second[i] = '*'
		}
		if string(first) != told || ok != again {
			t.Errorf("%d: %q, then %q", n, told, first)
		}
		for i := range all {
			all[i] = "+"
		}
		if string(first) != told {
			t.Errorf("%d: %q, then %q", n, told, first)
		}
	}
}

// P11.1, P11.2: what is answered hangs on what is handed in, on nothing that came before.
func TestAnswersDoNotHangOnOthers(t *testing.T) {
	for range 3 {
		asksUnframe(t, framed("ab"), "ab", 5)
		findsNone(t, begin+"ab")
		findsNone(t, "ab"+end+"\x00")
		asksFrame(t, "x")
		asksSplit(t, "a"+sep, "a", "")
		refusesJoin(t, sep)
		asksJoin(t, "b", "b")
	}
}
