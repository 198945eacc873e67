package arith

import (
	"bytes"
	"math"
	"math/big"
	"math/bits"
	"testing"
)

// edges: the least and the greatest signed number of each width, one past them, and some between.
func edges() []int64 {
	out := []int64{0, 1, -1, 2, -2, 5, -5, 200, -200, 255, 256, 0x123456789abcdef, math.MinInt64, math.MaxInt64}
	for w := range 63 {
		p := int64(1) << w
		out = append(out, p-1, p, p+1, -p-1, -p, -p+1)
	}
	return out
}

// widths: every width that there is, those beside them, and those far beyond.
func widths() []int {
	out := []int{math.MinInt, math.MinInt + 1, -1 << 40, -65, -64, -7, math.MaxInt, math.MaxInt - 1, 1 << 40, 1 << 32, 1<<32 + 8, 1000, 256, 129, 128, 127}
	for w := -2; w <= 66; w++ {
		out = append(out, w)
	}
	return out
}

// power answers 2^n, unbounded.
func power(n int) *big.Int { return new(big.Int).Lsh(big.NewInt(1), uint(n)) }

// holds: whether a signed number of so many bits has v.
func holds(v int64, w int) bool {
	if w < 1 || w > 64 {
		return false
	}
	half, x := power(w-1), big.NewInt(v)
	return x.Cmp(half) < 0 && x.Cmp(new(big.Int).Neg(half)) >= 0
}

// wrapped: v modulo 2^w, moved into the signed numbers of w bits.
func wrapped(v int64, w int) int64 {
	if w < 1 {
		return 0
	}
	if w > 64 {
		return v
	}
	x := new(big.Int).Mod(big.NewInt(v), power(w))
	if x.Cmp(power(w-1)) >= 0 {
		x.Sub(x, power(w))
	}
	return x.Int64()
}

// P1.1
func TestNarrowAtTheEdges(t *testing.T) {
	for _, x := range []struct {
		v    int64
		bits int
		ok   bool
	}{
		{200, 8, false}, {127, 8, true}, {128, 8, false}, {-128, 8, true}, {-129, 8, false},
		{0, 1, true}, {-1, 1, true}, {1, 1, false}, {-2, 1, false},
		{0, 0, false}, {5, 0, false}, {0, -1, false}, {0, math.MinInt, false},
		{1<<62 - 1, 63, true}, {1 << 62, 63, false}, {-1 << 62, 63, true}, {-1<<62 - 1, 63, false},
		{math.MaxInt64, 64, true}, {math.MinInt64, 64, true},
		{0, 65, false}, {math.MaxInt64, 65, false}, {0, 1 << 32, false}, {0, math.MaxInt, false},
	} {
		want := x.v
		if !x.ok {
			want = 0
		}
		if v, ok := Narrow(x.v, x.bits); v != want || ok != x.ok {
			t.Errorf("Narrow(%d, %d): %d, %v; want %d, %v", x.v, x.bits, v, ok, want, x.ok)
		}
	}
}

// P1.1
func TestWrapAtTheEdges(t *testing.T) {
	for _, x := range []struct {
		v    int64
		bits int
		want int64
	}{
		{200, 8, -56}, {-129, 8, 127}, {128, 8, -128}, {256, 8, 0}, {-1, 8, -1},
		{1, 1, -1}, {2, 1, 0}, {-1, 1, -1},
		{5, 0, 0}, {-5, -7, 0}, {-1, math.MinInt, 0},
		{math.MaxInt64, 63, -1}, {math.MinInt64, 63, 0}, {1 << 62, 63, -1 << 62},
		{math.MaxInt64, 64, math.MaxInt64}, {math.MinInt64, 64, math.MinInt64},
		{math.MaxInt64, 65, math.MaxInt64}, {-5, 1 << 40, -5}, {math.MinInt64, math.MaxInt, math.MinInt64},
	} {
		if got := Wrap(x.v, x.bits); got != x.want {
			t.Errorf("Wrap(%d, %d): %d; want %d", x.v, x.bits, got, x.want)
		}
	}
}

// P1.1, P1.3: what Narrow answers is the number itself, or false beside zero; false just where Wrap would answer another number.
func TestNarrowAnswersTheNumberOrFalse(t *testing.T) {
	for _, v := range edges() {
		for _, w := range widths() {
			got, ok := Narrow(v, w)
			if want := holds(v, w); ok != want {
				t.Fatalf("Narrow(%d, %d): %v; want %v", v, w, ok, want)
			}
			if ok && got != v || !ok && got != 0 {
				t.Fatalf("Narrow(%d, %d): %d, %v", v, w, got, ok)
			}
			if wrap := Wrap(v, w); wrap != wrapped(v, w) {
				t.Fatalf("Wrap(%d, %d): %d; want %d", v, w, wrap, wrapped(v, w))
			}
		}
	}
}

// P1.1, P1.3: the language's own narrow numbers say the same.
func TestWrapIsTheConversion(t *testing.T) {
	for _, v := range edges() {
		if Wrap(v, 8) != int64(int8(v)) || Wrap(v, 16) != int64(int16(v)) || Wrap(v, 32) != int64(int32(v)) {
			t.Errorf("Wrap of %d: %d, %d, %d", v, Wrap(v, 8), Wrap(v, 16), Wrap(v, 32))
		}
	}
}

// P1.1
func TestUnsignedAtTheEdges(t *testing.T) {
	for _, x := range []struct {
		v    int64
		bits int
		ok   bool
	}{
		{0, 0, true}, {1, 0, false}, {-1, 0, false}, {1, 1, true}, {2, 1, false},
		{255, 8, true}, {256, 8, false}, {-1, 8, false}, {-1, 63, false},
		{math.MaxInt64, 62, false}, {math.MaxInt64, 63, true}, {math.MinInt64, 63, false},
		{0, 64, false}, {5, 64, false}, {0, 65, false}, {0, 1 << 40, false}, {0, math.MaxInt, false},
		{0, -1, false}, {5, -1, false}, {0, math.MinInt, false},
	} {
		var want uint64
		if x.ok {
			want = uint64(x.v)
		}
		if v, ok := Unsigned(x.v, x.bits); v != want || ok != x.ok {
			t.Errorf("Unsigned(%d, %d): %d, %v; want %d, %v", x.v, x.bits, v, ok, want, x.ok)
		}
	}
}

// P1.1, P1.3
func TestUnsignedAnswersTheNumberOrFalse(t *testing.T) {
	for _, v := range edges() {
		for _, w := range widths() {
			want := v >= 0 && w >= 0 && w <= 63 && bits.Len64(uint64(v)) <= w
			got, ok := Unsigned(v, w)
			if ok != want || ok && got != uint64(v) || !ok && got != 0 {
				t.Fatalf("Unsigned(%d, %d): %d, %v; want %v", v, w, got, ok, want)
			}
		}
	}
}

// P1.1
func TestLow(t *testing.T) {
	for _, x := range []struct {
		v    uint64
		n    int
		want uint64
	}{
		{0x1234, 8, 0x34}, {0x1234, 9, 0x34}, {0x1334, 9, 0x134}, {0xff, 1, 1}, {0xfe, 1, 0},
		{math.MaxUint64, 0, 0}, {math.MaxUint64, -1, 0}, {math.MaxUint64, math.MinInt, 0},
		{math.MaxUint64, 63, 1<<63 - 1}, {1 << 63, 63, 0}, {1 << 63, 64, 1 << 63},
		{math.MaxUint64, 64, math.MaxUint64}, {math.MaxUint64, 65, math.MaxUint64},
		{math.MaxUint64, 1 << 40, math.MaxUint64}, {math.MaxUint64, math.MaxInt, math.MaxUint64},
	} {
		if got := Low(x.v, x.n); got != x.want {
			t.Errorf("Low(%x, %d): %x; want %x", x.v, x.n, got, x.want)
		}
	}
	for _, v := range edges() {
		for n := 1; n <= 64; n++ {
			x := new(big.Int).SetUint64(uint64(v))
			want := x.Mod(x, power(n)).Uint64()
			if got := Low(uint64(v), n); got != want {
				t.Fatalf("Low(%x, %d): %x; want %x", uint64(v), n, got, want)
			}
		}
	}
}

// P1.1
func TestRotate(t *testing.T) {
	const v = 0x80000001
	for _, x := range []struct {
		n    int
		want uint32
	}{
		{0, v}, {1, 3}, {4, 0x18}, {31, 0xc0000000}, {32, v}, {33, 3}, {64, v},
		{-1, 0xc0000000}, {-4, 0x18000000}, {-31, 3}, {-32, v}, {-33, 0xc0000000},
		{1 << 40, v}, {1<<40 + 1, 3}, {math.MaxInt, 0xc0000000}, {math.MinInt, v}, {math.MinInt + 1, 3},
	} {
		if got := Rotate(v, x.n); got != x.want {
			t.Errorf("Rotate(%x, %d): %x; want %x", uint32(v), x.n, got, x.want)
		}
	}
	for n := -100; n <= 100; n++ {
		for _, v := range []uint32{0, 1, 0xdeadbeef, 0x7fffffff, math.MaxUint32} {
			if got, want := Rotate(v, n), bits.RotateLeft32(v, n); got != want {
				t.Fatalf("Rotate(%x, %d): %x; want %x", v, n, got, want)
			}
		}
	}
}

// P1.2
func TestBytesAtTheEdges(t *testing.T) {
	const v = 0x0102030405060708
	for _, x := range []struct {
		v    uint64
		n    int
		want []byte
	}{
		{258, 3, []byte{0, 1, 2}}, {258, 2, []byte{1, 2}}, {258, 1, []byte{2}},
		{v, 0, nil}, {v, -1, nil}, {v, math.MinInt, nil},
		{v, 7, []byte{2, 3, 4, 5, 6, 7, 8}},
		{v, 8, []byte{1, 2, 3, 4, 5, 6, 7, 8}},
		{v, 9, []byte{0, 1, 2, 3, 4, 5, 6, 7, 8}},
		{math.MaxUint64, 8, bytes.Repeat([]byte{255}, 8)},
		{math.MaxUint64, 9, append([]byte{0}, bytes.Repeat([]byte{255}, 8)...)},
	} {
		if got := Bytes(x.v, x.n); !bytes.Equal(got, x.want) {
			t.Errorf("Bytes(%x, %d): %v; want %v", x.v, x.n, got, x.want)
		}
	}
}

// P1.2
func TestBytesAreAtMost64(t *testing.T) {
	want := append(make([]byte, 62), 1, 2)
	for _, n := range []int{64, 65, 66, 1 << 40, math.MaxInt} {
		if got := Bytes(258, n); !bytes.Equal(got, want) {
			t.Errorf("Bytes(258, %d): %v", n, got)
		}
	}
	if got := Bytes(258, 63); !bytes.Equal(got, want[1:]) {
		t.Errorf("Bytes(258, 63): %v", got)
	}
}

// P1.2, and DOC.md's third rule: what is answered is new memory.
func TestBytesAnswersNewMemory(t *testing.T) {
	first := Bytes(258, 4)
	first[0] = 9
	if got := Bytes(258, 4); !bytes.Equal(got, []byte{0, 0, 1, 2}) {
		t.Errorf("Bytes behind a change of an earlier answer: %v", got)
	}
}

// P1.2
func TestNumberAtTheEdges(t *testing.T) {
	most := bytes.Repeat([]byte{255}, 8)
	for _, x := range []struct {
		b  []byte
		v  uint64
		ok bool
	}{
		{nil, 0, true}, {[]byte{}, 0, true}, {[]byte{0}, 0, true}, {[]byte{1, 0}, 256, true}, {[]byte{255}, 255, true},
		{most, math.MaxUint64, true},
		{[]byte{128, 0, 0, 0, 0, 0, 0, 0}, 1 << 63, true},
		{append([]byte{0}, most...), math.MaxUint64, true},
		{append(make([]byte, 1000), most...), math.MaxUint64, true},
		{make([]byte, 1000), 0, true},
		{append(make([]byte, 64), 1, 2), 258, true},
		{[]byte{1, 0, 0, 0, 0, 0, 0, 0, 0}, 0, false},
		{append(make([]byte, 1000), 1, 0, 0, 0, 0, 0, 0, 0, 0), 0, false},
		{append([]byte{1}, make([]byte, 1000)...), 0, false},
		{bytes.Repeat([]byte{255}, 9), 0, false},
	} {
		if v, ok := Number(x.b); v != x.v || ok != x.ok {
			t.Errorf("Number(%v): %d, %v; want %d, %v", x.b, v, ok, x.v, x.ok)
		}
	}
}

// P1.2
func TestSignedAtTheEdges(t *testing.T) {
	for _, x := range []struct {
		b  []byte
		v  int64
		ok bool
	}{
		{nil, 0, false}, {[]byte{}, 0, false},
		{[]byte{0}, 0, true}, {[]byte{127}, 127, true}, {[]byte{128}, -128, true}, {[]byte{255}, -1, true},
		{[]byte{0, 255}, 255, true}, {[]byte{255, 0}, -256, true}, {[]byte{127, 255}, 32767, true}, {[]byte{128, 0}, -32768, true},
		{[]byte{127, 255, 255, 255, 255, 255, 255, 255}, math.MaxInt64, true},
		{[]byte{128, 0, 0, 0, 0, 0, 0, 0}, math.MinInt64, true},
		{bytes.Repeat([]byte{255}, 8), -1, true},
		{make([]byte, 9), 0, false}, {append(make([]byte, 8), 1), 0, false}, {bytes.Repeat([]byte{255}, 9), 0, false},
		{make([]byte, 1000), 0, false},
	} {
		if v, ok := Signed(x.b); v != x.v || ok != x.ok {
			t.Errorf("Signed(%v): %d, %v; want %d, %v", x.b, v, ok, x.v, x.ok)
		}
	}
}

// P1.2, P1.3: what Bytes makes is read back as the lowest n bytes of it, unsigned and signed.
func TestBytesAreReadBack(t *testing.T) {
	for _, v := range edges() {
		for n := 1; n <= 70; n++ {
			b := Bytes(uint64(v), n)
			if got, ok := Number(b); !ok || got != Low(uint64(v), 8*n) {
				t.Fatalf("Number(Bytes(%x, %d)): %x, %v", uint64(v), n, got, ok)
			}
			got, ok := Signed(b)
			if n <= 8 && (!ok || got != wrapped(v, 8*n)) || n > 8 && (ok || got != 0) {
				t.Fatalf("Signed(Bytes(%x, %d)): %d, %v", uint64(v), n, got, ok)
			}
		}
	}
}

// P1.2, and DOC.md's third rule: what is handed in stays as it is, the spare room behind it too.
func TestReadingChangesNothing(t *testing.T) {
	whole := []byte{0, 1, 2, 3, 4, 5, 6, 7, 8, 9}
	was := bytes.Clone(whole)
	Number(whole[:3])
	Signed(whole[:3])
	Number(whole[1:])
	Signed(whole[1:])
	if !bytes.Equal(whole, was) {
		t.Errorf("what was handed in is now %v", whole)
	}
}
