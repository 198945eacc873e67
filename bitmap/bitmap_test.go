package bitmap

import (
	"bytes"
	"fmt"
	"math"
	"math/rand"
	"slices"
	"strings"
	"testing"
)

// signs answers b's bits as a text, the highest one of the first byte ahead.
func signs(b []byte) string {
	var out strings.Builder
	for _, x := range b {
		fmt.Fprintf(&out, "%08b", x)
	}
	return out.String()
}

// put answers the bits that Put's answer must have, as a text, and whether there are any.
func put(n []int) (string, bool) {
	for i, x := range n {
		if x < 2 || x > 128 || i > 0 && x <= n[i-1] {
			return "", false
		}
	}
	out := []byte(strings.Repeat("0", 64))
	if len(n) > 0 && n[len(n)-1] > 64 {
		out = []byte("1" + strings.Repeat("0", 127))
	}
	for _, x := range n {
		out[x-1] = '1'
	}
	return string(out), true
}

// read answers what Read must, worked out from the text of b's bits.
func read(b []byte) ([]int, int, bool) {
	text := signs(b)
	want := 64
	if strings.HasPrefix(text, "1") {
		want = 128
	}
	if len(text) < want || want == 128 && strings.Trim(text[64:128], "0") == "" {
		return nil, 0, false
	}
	var n []int
	for i := 1; i < want; i++ {
		if text[i] == '1' {
			n = append(n, i+1)
		}
	}
	return n, want / 8, true
}

// asksPut holds Put of n against what it must answer.
func asksPut(t *testing.T, n []int) {
	t.Helper()
	want, wantOK := put(n)
	if b, ok := Put(n); signs(b) != want || ok != wantOK {
		t.Fatalf("Put(%v): %x, %v; want %s, %v", n, b, ok, want, wantOK)
	}
}

// asksRead holds Read of b against what it must answer.
func asksRead(t *testing.T, b []byte) {
	t.Helper()
	want, wantTook, wantOK := read(b)
	if n, took, ok := Read(b); !slices.Equal(n, want) || took != wantTook || ok != wantOK {
		t.Fatalf("Read(%x): %v, %d, %v; want %v, %d, %v", b, n, took, ok, want, wantTook, wantOK)
	}
}

// asksHas holds Has of b and each number about it against b's bits.
func asksHas(t *testing.T, b []byte) {
	t.Helper()
	text := signs(b)
	for n := -20; n <= 300; n++ {
		want := n >= 1 && n <= 128 && n <= len(text) && text[n-1] == '1'
		if got := Has(b, n); got != want {
			t.Fatalf("Has(%x, %d): %v", b, n, got)
		}
	}
}

// asksBack asks that the numbers n come back from their bitmap, whatever stands behind it, and that none come from less of it.
func asksBack(t *testing.T, n []int) {
	t.Helper()
	asksPut(t, n)
	b, ok := Put(n)
	if !ok {
		t.Fatalf("Put(%v): false", n)
	}
	asksHas(t, b)
	for _, behind := range []string{"", "\x00", "\xff", strings.Repeat("\x00", 8), strings.Repeat("\xff", 9), strings.Repeat("\xa5", 120)} {
		got, took, ok := Read(append(bytes.Clone(b), behind...))
		if !slices.Equal(got, n) || took != len(b) || !ok {
			t.Fatalf("Read(Put(%v) and %x): %v, %d, %v", n, behind, got, took, ok)
		}
	}
	for length := range b {
		if got, took, ok := Read(b[:length]); ok || took != 0 || len(got) != 0 {
			t.Fatalf("Read of %d bytes of Put(%v): %v, %d, %v", length, n, got, took, ok)
		}
	}
}

// some answers numbers from 2 to 128 that rise, chosen at a density from seldom to often.
func some(r *rand.Rand, most int) []int {
	density := r.Intn(101)
	var out []int
	for x := 2; x <= most; x++ {
		if r.Intn(100) < density {
			out = append(out, x)
		}
	}
	return out
}

// all answers each number from first to last.
func all(first, last int) []int {
	var out []int
	for x := first; x <= last; x++ {
		out = append(out, x)
	}
	return out
}

// noughts answers so many bytes of 0 behind these.
func noughts(n int, ahead ...byte) []byte {
	return append(ahead, make([]byte, n)...)
}

// P7.1
func TestPutAtTheEdges(t *testing.T) {
	for _, x := range []struct {
		n    []int
		want []byte
	}{
		{nil, noughts(8)}, {[]int{}, noughts(8)},
		{[]int{2}, noughts(7, 0x40)}, {[]int{3}, noughts(7, 0x20)}, {[]int{8}, noughts(7, 0x01)}, {[]int{9}, noughts(6, 0, 0x80)}, {[]int{2, 9}, noughts(6, 0x40, 0x80)},
		{[]int{56}, []byte{0, 0, 0, 0, 0, 0, 1, 0}}, {[]int{57}, []byte{0, 0, 0, 0, 0, 0, 0, 0x80}}, {[]int{63}, []byte{0, 0, 0, 0, 0, 0, 0, 2}}, {[]int{64}, []byte{0, 0, 0, 0, 0, 0, 0, 1}},
		{[]int{65}, noughts(7, 0x80, 0, 0, 0, 0, 0, 0, 0, 0x80)}, {[]int{66}, noughts(7, 0x80, 0, 0, 0, 0, 0, 0, 0, 0x40)},
		{[]int{64, 65}, noughts(7, 0x80, 0, 0, 0, 0, 0, 0, 1, 0x80)}, {[]int{2, 65}, noughts(7, 0xc0, 0, 0, 0, 0, 0, 0, 0, 0x80)},
		{[]int{128}, append(noughts(14, 0x80), 1)}, {[]int{2, 128}, append(noughts(14, 0xc0), 1)},
		{all(2, 64), []byte{0x7f, 255, 255, 255, 255, 255, 255, 255}}, {all(2, 128), bytes.Repeat([]byte{255}, 16)},
		{all(65, 128), append(noughts(7, 0x80), bytes.Repeat([]byte{255}, 8)...)},
	} {
		if b, ok := Put(x.n); !ok || !bytes.Equal(b, x.want) {
			t.Errorf("Put(%v): %x, %v; want %x", x.n, b, ok, x.want)
		}
		asksBack(t, x.n)
	}
}

// P7.1
func TestPutOfEachNumberAlone(t *testing.T) {
	for x := -300; x <= 500; x++ {
		asksPut(t, []int{x})
		if b, ok := Put([]int{x}); ok != (x >= 2 && x <= 128) || !ok && len(b) != 0 {
			t.Fatalf("Put([%d]): %x, %v", x, b, ok)
		}
		if x >= 2 && x <= 128 {
			asksBack(t, []int{x})
		}
	}
}

// P7.1: each two numbers, those that don't rise and those out of the range too.
func TestPutOfEachTwoNumbers(t *testing.T) {
	for a := -2; a <= 131; a++ {
		for b := -2; b <= 131; b++ {
			asksPut(t, []int{a, b})
		}
	}
}

// P7.1: one number that doesn't fit is enough, at either end or between.
func TestPutOfWrongNumbers(t *testing.T) {
	wrong := []int{1, 0, -1, -2, -64, -126, -128, 129, 130, 192, 256, 258, 1 << 31, 1<<32 + 2, 1<<32 + 65, 1 << 40, -1 << 32, -1<<32 + 2, math.MaxInt, math.MaxInt - 1, math.MinInt, math.MinInt + 1, math.MinInt + 2}
	for _, n := range [][]int{nil, {2}, {64}, {65}, {128}, {2, 3}, {3, 64, 65}, {2, 11, 41, 70, 128}, all(2, 64), all(2, 128)} {
		for at := range len(n) + 1 {
			for _, x := range wrong {
				if b, ok := Put(slices.Insert(slices.Clone(n), at, x)); ok || len(b) != 0 {
					t.Fatalf("Put(%v with %d at %d): %x, %v", n, x, at, b, ok)
				}
			}
		}
	}
}

// P7.1
func TestPutOfNumbersThatDontRise(t *testing.T) {
	for _, n := range [][]int{
		{2, 2}, {64, 64}, {65, 65}, {128, 128}, {3, 2}, {65, 64}, {128, 2}, {2, 3, 3}, {2, 2, 3}, {2, 4, 3}, {4, 2, 3}, {2, 128, 3}, {2, 3, 2}, {70, 70, 71}, {2, 64, 65, 65}, {3, 2, 128},
		append(all(2, 128), 128), append(all(2, 128), 2), append(all(2, 64), 64), append([]int{2}, all(2, 128)...),
	} {
		if b, ok := Put(n); ok || len(b) != 0 {
			t.Errorf("Put(%v): %x, %v", n, b, ok)
		}
	}
	r := rand.New(rand.NewSource(71))
	for range 3000 {
		n := some(r, 128)
		if len(n) < 2 {
			continue
		}
		i, j := r.Intn(len(n)), r.Intn(len(n))
		n[i], n[j] = n[j], n[i]
		asksPut(t, n)
		n[i] = n[j]
		asksPut(t, n)
	}
	long := make([]int, 1<<20)
	for i := range long {
		long[i] = i + 2
	}
	if b, ok := Put(long); ok || len(b) != 0 {
		t.Errorf("Put of a long list: %x, %v", b, ok)
	}
}

// P7.1
func TestReadAtTheEdges(t *testing.T) {
	for _, x := range []struct {
		b    []byte
		n    []int
		took int
		ok   bool
	}{
		{nil, nil, 0, false}, {[]byte{}, nil, 0, false}, {[]byte{0}, nil, 0, false}, {[]byte{0x40}, nil, 0, false}, {[]byte{0x80}, nil, 0, false},
		{noughts(6, 0x40), nil, 0, false}, {noughts(6, 0xc0), nil, 0, false}, {noughts(7), nil, 0, false},
		{noughts(8), nil, 8, true}, {noughts(9), nil, 8, true}, {noughts(16), nil, 8, true}, {noughts(300), nil, 8, true},
		{noughts(7, 0x40), []int{2}, 8, true}, {append(noughts(7, 0x40), 0xff), []int{2}, 8, true}, {append(noughts(7, 0x40), bytes.Repeat([]byte{255}, 8)...), []int{2}, 8, true},
		{append(noughts(8), 1, 2, 3), nil, 8, true}, {[]byte{0, 0, 0, 0, 0, 0, 0, 1, 0x80}, []int{64}, 8, true},
		{noughts(7, 0x80), nil, 0, false}, {noughts(7, 0xc0), nil, 0, false}, {noughts(7, 0x80, 1), nil, 0, false},
		{append(noughts(7, 0x80), bytes.Repeat([]byte{255}, 7)...), nil, 0, false}, {bytes.Repeat([]byte{255}, 15), nil, 0, false}, {bytes.Repeat([]byte{255}, 8), nil, 0, false},
		{noughts(15, 0x80), nil, 0, false}, {noughts(15, 0xc0), nil, 0, false}, {append(bytes.Repeat([]byte{255}, 8), noughts(8)...), nil, 0, false},
		{append(noughts(15, 0x80), 1), nil, 0, false}, {append(noughts(15, 0xc0), bytes.Repeat([]byte{255}, 100)...), nil, 0, false},
		{append(noughts(14, 0x80), 1), []int{128}, 16, true}, {noughts(7, 0x80, 0, 0, 0, 0, 0, 0, 0, 0x80), []int{65}, 16, true},
		{append(noughts(14, 0xc0), 1, 1), []int{2, 128}, 16, true},
		{bytes.Repeat([]byte{255}, 16), all(2, 128), 16, true}, {bytes.Repeat([]byte{255}, 300), all(2, 128), 16, true},
		{append([]byte{0x7f}, bytes.Repeat([]byte{255}, 15)...), all(2, 64), 8, true},
	} {
		if n, took, ok := Read(x.b); !slices.Equal(n, x.n) || took != x.took || ok != x.ok {
			t.Errorf("Read(%x): %v, %d, %v; want %v, %d, %v", x.b, n, took, ok, x.n, x.took, x.ok)
		}
		asksRead(t, x.b)
	}
}

// P7.1: of each number of bytes about the two sizes, with bit 1 and without it, one bit set in each place.
func TestReadOfEachLength(t *testing.T) {
	for length := range 19 {
		for _, first := range []byte{0, 0x80, 0x40, 0xc0} {
			b := noughts(length)
			if length > 0 {
				b[0] = first
			}
			asksRead(t, b)
			for bit := range 8 * length {
				one := bytes.Clone(b)
				one[bit/8] ^= 0x80 >> (bit % 8)
				asksRead(t, one)
				asksHas(t, one)
			}
		}
	}
}

// P7.1: each byte in each place, of a bitmap of eight bytes and of one of sixteen.
func TestReadOfEachByte(t *testing.T) {
	for _, b := range [][]byte{noughts(8), noughts(15, 0x80), bytes.Repeat([]byte{255}, 16), append([]byte{0x7f}, bytes.Repeat([]byte{255}, 15)...)} {
		for at := range b {
			one := bytes.Clone(b)
			for x := range 256 {
				one[at] = byte(x)
				asksRead(t, one)
				asksRead(t, append(bytes.Clone(one), 255))
			}
		}
	}
}

// P7.1
func TestHasAtTheEdges(t *testing.T) {
	full := bytes.Repeat([]byte{255}, 40)
	for _, n := range []int{math.MinInt, math.MinInt + 1, -1 << 40, -1 << 32, 1 - 1<<32, -129, -128, -64, -8, -7, -1, 0, 129, 136, 192, 256, 257, 320, 1 << 31, 1<<32 + 1, 1 << 40, math.MaxInt - 1, math.MaxInt} {
		for _, b := range [][]byte{nil, full[:1], full[:8], full[:16], full[:17], full} {
			if Has(b, n) {
				t.Errorf("Has of %d bytes, %d: true", len(b), n)
			}
		}
	}
	for length := range full {
		asksHas(t, full[:length])
		asksHas(t, noughts(length))
		for _, n := range []int{1, 2, 8, 9, 16, 17, 64, 65, 72, 73, 127, 128} {
			if got := Has(full[:length], n); got != (n <= 8*length) {
				t.Errorf("Has of %d bytes, %d: %v", length, n, got)
			}
		}
	}
	for _, b := range [][]byte{{0x80}, {0x7f}, {1}, {0, 0x80}, {0, 0x7f}, {0, 0, 0, 0, 0, 0, 0, 1, 0x80}, append(noughts(15), 1, 0x80), append(noughts(16), 255)} {
		asksHas(t, b)
	}
}

// P7.1: Has tells each byte's bits, wherever it stands, and whether or not Read takes the whole.
func TestHasOfEachByte(t *testing.T) {
	for x := range 256 {
		for at := range 18 {
			b := noughts(at + 1)
			b[at] = byte(x)
			asksHas(t, b)
		}
	}
}

// P7.2: numbers come back from their bitmap, each alone, all up to it, all from it on, and many others.
func TestNumbersComeBack(t *testing.T) {
	asksBack(t, nil)
	for x := 2; x <= 128; x++ {
		asksBack(t, []int{x})
		asksBack(t, all(2, x))
		asksBack(t, all(x, 128))
		for y := x + 1; y <= 128; y++ {
			asksBack(t, []int{x, y})
		}
	}
	r := rand.New(rand.NewSource(7))
	for range 2000 {
		asksBack(t, some(r, 64))
		asksBack(t, some(r, 128))
	}
}

// P7.2: bytes that Read takes are those that Put makes of the numbers.
func TestReadBytesComeBack(t *testing.T) {
	r := rand.New(rand.NewSource(72))
	taken, left := 0, 0
	for range 30000 {
		b := make([]byte, r.Intn(20))
		for i := range b {
			b[i] = byte(r.Intn(256) & r.Intn(256))
		}
		if len(b) >= 16 && r.Intn(2) == 0 {
			clear(b[8:])
			b[8+r.Intn(len(b)-8)] = byte(r.Intn(2))
		}
		asksRead(t, b)
		n, took, ok := Read(b)
		if !ok {
			left++
			continue
		}
		taken++
		if got, ok := Put(n); !ok || !bytes.Equal(got, b[:took]) {
			t.Fatalf("Put(Read(%x)): %x, %v of %v", b, got, ok, n)
		}
	}
	if taken < 1000 || left < 1000 {
		t.Errorf("%d were taken, %d left", taken, left)
	}
}

// DOC.md's third rule: what is handed in stays as it is, the spare room behind it too, and isn't kept.
func TestWhatIsHandedInStays(t *testing.T) {
	for _, whole := range [][]byte{bytes.Repeat([]byte{255}, 20), noughts(19, 0x40), noughts(19, 0x80)} {
		was := bytes.Clone(whole)
		for length := range whole {
			Read(whole[:length])
			asksHas(t, whole[:length])
		}
		if !bytes.Equal(whole, was) {
			t.Errorf("what was handed in is now %x; was %x", whole, was)
		}
	}
	for _, list := range [][]int{{2, 3, 64, 65, 128, 1, 0}, {3, 2, 2, 1, 200, -5, 7}} {
		was := slices.Clone(list)
		for length := range list {
			Put(list[:length])
		}
		if !slices.Equal(list, was) {
			t.Errorf("what was handed in is now %v; was %v", list, was)
		}
	}
	list := []int{2, 65}
	b, _ := Put(list)
	list[0], list[1] = 7, 8
	n, took, ok := Read(b)
	clear(b)
	if want := []int{2, 65}; !slices.Equal(n, want) || took != 16 || !ok {
		t.Errorf("the answer is now %v, %d, %v", n, took, ok)
	}
}

// DOC.md's third rule: what is answered is new memory.
func TestAnswersAreNewMemory(t *testing.T) {
	for _, list := range [][]int{nil, {2}, {2, 64}, {65}, all(2, 128)} {
		first, _ := Put(list)
		second, _ := Put(list)
		was := bytes.Clone(second)
		n, _, _ := Read(second)
		again, _, _ := Read(second)
		for i := range first {
			first[i] ^= 0xff
		}
		for i := range n {
			n[i] = -1
		}
		_, _ = append(first, 0xff), append(n, -1)
		if !bytes.Equal(second, was) || !slices.Equal(again, list) {
			t.Errorf("of %v, behind a change of an earlier answer: %x, %v", list, second, again)
		}
		asksBack(t, list)
	}
}
