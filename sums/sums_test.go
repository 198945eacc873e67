package sums

import (
	"math"
	"math/big"
	"slices"
	"testing"

	"guichet/api"
)

const (
	most  = math.MaxInt64
	least = math.MinInt64
	// root is the greatest number whose square an int64 has.
	root = 3037000499
)

// edges: the least and the greatest numbers, those about each power of two, and some between.
func edges() []int64 {
	out := []int64{0, 1, -1, 2, -2, 3, -3, 7, -7, 10, 1000000, root, root + 1, -root, -root - 1, most, most - 1, most / 2, most/2 + 1, most / 3, least, least + 1, least / 2, least/2 - 1, least / 3}
	for w := range 63 {
		p := int64(1) << w
		out = append(out, p-1, p, p+1, -p-1, -p, -p+1)
	}
	return out
}

// has answers x where an int64 has it, and 0, false elsewhere.
func has(x *big.Int) (int64, bool) {
	if !x.IsInt64() {
		return 0, false
	}
	return x.Int64(), true
}

// P2.1
func TestAddSubMulAtTheEdges(t *testing.T) {
	type answer struct {
		v  int64
		ok bool
	}
	none := answer{}
	for _, x := range []struct {
		a, b          int64
		add, sub, mul answer
	}{
		{0, 0, answer{0, true}, answer{0, true}, answer{0, true}},
		{7, 5, answer{12, true}, answer{2, true}, answer{35, true}},
		{7, -5, answer{2, true}, answer{12, true}, answer{-35, true}},
		{-7, -5, answer{-12, true}, answer{-2, true}, answer{35, true}},
		{most, 0, answer{most, true}, answer{most, true}, answer{0, true}},
		{most, 1, none, answer{most - 1, true}, answer{most, true}},
		{1, most, none, answer{-most + 1, true}, answer{most, true}},
		{most, -1, answer{most - 1, true}, none, answer{-most, true}},
		{most, most, none, answer{0, true}, none},
		{most, least, answer{-1, true}, none, none},
		{least, most, answer{-1, true}, none, none},
		{least, 0, answer{least, true}, answer{least, true}, answer{0, true}},
		{0, least, answer{least, true}, none, answer{0, true}},
		{least, 1, answer{least + 1, true}, none, answer{least, true}},
		{1, least, answer{least + 1, true}, none, answer{least, true}},
		{least, -1, none, answer{least + 1, true}, none},
		{-1, least, none, answer{most, true}, none},
		{least, least, none, answer{0, true}, none},
		{least, 2, answer{least + 2, true}, none, none},
		{-2, -most, none, answer{most - 2, true}, none},
		{-2, most, answer{most - 2, true}, none, none},
		{-2, 1 << 62, answer{1<<62 - 2, true}, answer{-1<<62 - 2, true}, answer{least, true}},
		{-2, -1 << 62, answer{-1<<62 - 2, true}, answer{1<<62 - 2, true}, none},
		{-1 << 32, -1 << 31, answer{-3 << 31, true}, answer{-1 << 31, true}, none},
		{-1 << 32, 1 << 31, answer{-1 << 31, true}, answer{-3 << 31, true}, answer{least, true}},
		{-1 << 32, -1<<31 + 1, answer{-3<<31 + 1, true}, answer{-1<<31 - 1, true}, answer{most - 1<<32 + 1, true}},
		{1 << 32, 1 << 32, answer{1 << 33, true}, answer{0, true}, none},
		{-root, -root, answer{-2 * root, true}, answer{0, true}, answer{root * root, true}},
		{-root - 1, -root - 1, answer{-2*root - 2, true}, answer{0, true}, none},
	} {
		if v, ok := Add(x.a, x.b); (answer{v, ok}) != x.add {
			t.Errorf("Add(%d, %d): %d, %v; want %v", x.a, x.b, v, ok, x.add)
		}
		if v, ok := Sub(x.a, x.b); (answer{v, ok}) != x.sub {
			t.Errorf("Sub(%d, %d): %d, %v; want %v", x.a, x.b, v, ok, x.sub)
		}
		if v, ok := Mul(x.a, x.b); (answer{v, ok}) != x.mul {
			t.Errorf("Mul(%d, %d): %d, %v; want %v", x.a, x.b, v, ok, x.mul)
		}
	}
}

// P2.1, P2.2: held against numbers without bounds.
func TestAddSubMulAreRightOrNone(t *testing.T) {
	for _, a := range edges() {
		for _, b := range edges() {
			x, y := big.NewInt(a), big.NewInt(b)
			for _, c := range []struct {
				name string
				call func(a, b int64) (int64, bool)
				want *big.Int
			}{
				{"Add", Add, new(big.Int).Add(x, y)},
				{"Sub", Sub, new(big.Int).Sub(x, y)},
				{"Mul", Mul, new(big.Int).Mul(x, y)},
			} {
				want, wantOK := has(c.want)
				if got, ok := c.call(a, b); got != want || ok != wantOK {
					t.Fatalf("%s(%d, %d): %d, %v; want %d, %v", c.name, a, b, got, ok, want, wantOK)
				}
			}
		}
	}
}

// P2.1
func TestTotalAtTheEdges(t *testing.T) {
	for _, x := range []struct {
		l    []int64
		want int64
		ok   bool
	}{
		{nil, 0, true},
		{[]int64{}, 0, true},
		{[]int64{5}, 5, true},
		{[]int64{most}, most, true},
		{[]int64{least}, least, true},
		{[]int64{1, -2, 3, -4, 5}, 3, true},
		{[]int64{most, 1}, 0, false},
		{[]int64{1, most}, 0, false},
		{[]int64{least, -1}, 0, false},
		{[]int64{most, most}, 0, false},
		{[]int64{least, least}, 0, false},
		{[]int64{most, 1, -1}, most, true},
		{[]int64{least, -1, 1}, least, true},
		{[]int64{most, 1, -2}, most - 1, true},
		{[]int64{most, most, most, least, least, least}, -3, true},
		{[]int64{least, least, most, most, 2}, 0, true},
		{[]int64{most, most, most, least, least}, most - 2, true},
		{[]int64{least, least, least, most, most}, 0, false},
		{[]int64{least, least, least, most, most, 2}, least, true},
		{[]int64{least, least, most, most, 1, 1, least}, least, true},
		{[]int64{most, most, 1, 1}, 0, false},
		{[]int64{least, least, least, least}, 0, false},
	} {
		if got, ok := Total(x.l); got != x.want || ok != x.ok {
			t.Errorf("Total(%v): %d, %v; want %d, %v", x.l, got, ok, x.want, x.ok)
		}
	}
}

// P2.1: a long list goes far over on the way, and comes back.
func TestTotalOfALongList(t *testing.T) {
	const n = 100000
	up := slices.Repeat([]int64{most}, n)
	if v, ok := Total(up); v != 0 || ok {
		t.Errorf("Total of the greatest: %d, %v", v, ok)
	}
	down := slices.Repeat([]int64{least}, n)
	if v, ok := Total(down); v != 0 || ok {
		t.Errorf("Total of the least: %d, %v", v, ok)
	}
	for _, l := range [][]int64{slices.Concat(up, down), slices.Concat(down, up)} {
		if v, ok := Total(l); v != -n || !ok {
			t.Errorf("Total of both: %d, %v; want %d", v, ok, -n)
		}
	}
}

// P2.1, P2.2: the order says nothing, and the sum is right, or there is none.
func TestTotalIsRightOrNone(t *testing.T) {
	few := []int64{0, 1, -1, 1 << 32, -1 << 32, most, most - 1, least, least + 1}
	for _, a := range few {
		for _, b := range few {
			for _, c := range few {
				for _, d := range few {
					sum := new(big.Int)
					for _, v := range []int64{a, b, c, d} {
						sum.Add(sum, big.NewInt(v))
					}
					want, wantOK := has(sum)
					if got, ok := Total([]int64{a, b, c, d}); got != want || ok != wantOK {
						t.Fatalf("Total(%d, %d, %d, %d): %d, %v; want %d, %v", a, b, c, d, got, ok, want, wantOK)
					}
				}
			}
		}
	}
}

// P2.1, and DOC.md's third rule: what is handed in stays as it is, the spare room behind it too.
func TestTotalChangesNothing(t *testing.T) {
	whole := []int64{1, most, least, 4, 5}
	was := slices.Clone(whole)
	if v, ok := Total(whole[:1]); v != 1 || !ok {
		t.Errorf("Total of a beginning: %d, %v", v, ok)
	}
	Total(whole)
	if !slices.Equal(whole, was) {
		t.Errorf("what was handed in is now %v", whole)
	}
}

// P2.1
func TestWorthAtTheEdges(t *testing.T) {
	for _, x := range []struct {
		n, d api.Notes
		want int64
		ok   bool
	}{
		{api.Notes{}, api.Notes{}, 0, true},
		{api.Notes{1, 2, 3, 4}, api.Notes{10, 20, 50, 100}, 600, true},
		{api.Notes{1, 2, 3, 4}, api.Notes{}, 0, true},
		{api.Notes{}, api.Notes{most, least, most, least}, 0, true},
		{api.Notes{-1, -2}, api.Notes{-10, 20}, -30, true},
		// The whole goes over, no product does.
		{api.Notes{most, 1}, api.Notes{1, 1}, 0, false},
		{api.Notes{least, 1}, api.Notes{1, -1}, 0, false},
		{api.Notes{most, most, most, most}, api.Notes{1, 1, 1, 1}, 0, false},
		{api.Notes{least, least, least, least}, api.Notes{1, 1, 1, 1}, 0, false},
		// A sum on the way goes over, the whole doesn't.
		{api.Notes{most, 2, 1}, api.Notes{1, 1, -2}, most, true},
		{api.Notes{most, most, least, least}, api.Notes{1, 1, 1, 1}, -2, true},
		{api.Notes{least, least, most, most}, api.Notes{1, 1, 1, 1}, -2, true},
		// A product goes over, the whole wouldn't.
		{api.Notes{1 << 32, 1 << 32}, api.Notes{1 << 32, -1 << 32}, 0, false},
		{api.Notes{least, least}, api.Notes{-1, 1}, 0, false},
		{api.Notes{least, 0, 0, 1}, api.Notes{-1, 0, 0, -1}, 0, false},
		{api.Notes{1, 2, most, 3}, api.Notes{1, 2, 2, 3}, 0, false},
	} {
		if got, ok := Worth(x.n, x.d); got != x.want || ok != x.ok {
			t.Errorf("Worth(%v, %v): %d, %v; want %d, %v", x.n, x.d, got, ok, x.want, x.ok)
		}
	}
}

// P2.1
func TestPlusAtTheEdges(t *testing.T) {
	for _, x := range []struct {
		a, b, want api.Notes
		ok         bool
	}{
		{api.Notes{}, api.Notes{}, api.Notes{}, true},
		{api.Notes{1, 2, 3, 4}, api.Notes{10, 20, 30, 40}, api.Notes{11, 22, 33, 44}, true},
		{api.Notes{1, -2, 3, -4}, api.Notes{-10, 20, -30, 40}, api.Notes{-9, 18, -27, 36}, true},
		{api.Notes{most, least, most, least}, api.Notes{least, most, 0, 0}, api.Notes{-1, -1, most, least}, true},
		{api.Notes{most - 1, least + 1, 0, 0}, api.Notes{1, -1, most, least}, api.Notes{most, least, most, least}, true},
	} {
		if got, ok := Plus(x.a, x.b); got != x.want || ok != x.ok {
			t.Errorf("Plus(%v, %v): %v, %v; want %v, %v", x.a, x.b, got, ok, x.want, x.ok)
		}
	}
}

// P2.1: one cassette that goes over is enough, whichever it is, and however the others are.
func TestEachCassetteGoesOver(t *testing.T) {
	for i := range api.Cassettes {
		for _, x := range []struct{ v, by int }{{most, 1}, {1, most}, {least, -1}, {-1, least}, {most, most}, {least, least}} {
			a, b := api.Notes{1, 2, 3, 4}, api.Notes{5, 6, 7, 8}
			a[i], b[i] = x.v, x.by
			if got, ok := Plus(a, b); ok || got != (api.Notes{}) {
				t.Errorf("Plus(%v, %v): %v, %v", a, b, got, ok)
			}
		}
		n, d := api.Notes{1, 2, 3, 4}, api.Notes{5, 6, 7, 8}
		n[i], d[i] = 1<<32, 1<<31
		if got, ok := Worth(n, d); ok || got != 0 {
			t.Errorf("Worth(%v, %v): %d, %v", n, d, got, ok)
		}
	}
}

// P2.1: each cassette counts, with its own worth.
func TestEachCassetteCounts(t *testing.T) {
	d := api.Notes{10, 20, 50, 100}
	for i := range api.Cassettes {
		for _, v := range []int{1, -3, 10000, 1 << 40, most / 100, least / 100} {
			var n, none api.Notes
			n[i] = v
			if got, ok := Count(n); got != v || !ok {
				t.Errorf("Count(%v): %d, %v", n, got, ok)
			}
			if got, ok := Worth(n, d); got != int64(v)*int64(d[i]) || !ok {
				t.Errorf("Worth(%v, %v): %d, %v", n, d, got, ok)
			}
			if got, ok := Plus(n, none); got != n || !ok {
				t.Errorf("Plus(%v, %v): %v, %v", n, none, got, ok)
			}
			if got, ok := Plus(none, n); got != n || !ok {
				t.Errorf("Plus(%v, %v): %v, %v", none, n, got, ok)
			}
		}
	}
}

// P2.1
func TestCountAtTheEdges(t *testing.T) {
	for _, x := range []struct {
		n    api.Notes
		want int
		ok   bool
	}{
		{api.Notes{}, 0, true},
		{api.Notes{1, 2, 3, 4}, 10, true},
		{api.Notes{1, -2, 3, -4}, -2, true},
		{api.Notes{0, 0, 0, most}, most, true},
		{api.Notes{least}, least, true},
		{api.Notes{most, 1}, 0, false},
		{api.Notes{0, 0, least, -1}, 0, false},
		{api.Notes{most, 1, 0, -1}, most, true},
		{api.Notes{least, -1, 0, 1}, least, true},
		{api.Notes{most, most, least, least}, -2, true},
		{api.Notes{most, most, most, least}, 0, false},
		{api.Notes{most, most, 1, 1}, 0, false},
		{api.Notes{least, least, least, least}, 0, false},
	} {
		if got, ok := Count(x.n); got != x.want || ok != x.ok {
			t.Errorf("Count(%v): %d, %v; want %d, %v", x.n, got, ok, x.want, x.ok)
		}
	}
}

// P2.1, P2.2: the calls on notes, held against numbers without bounds.
func TestNotesAreRightOrNone(t *testing.T) {
	few := []int{0, 1, -1, 1 << 32, -1 << 31, most, least}
	for _, a := range few {
		for _, b := range few {
			for _, c := range few {
				for _, e := range few {
					n, d := api.Notes{a, b, c, e}, api.Notes{e, 1, b, -1}
					checkNotes(t, n, d)
				}
			}
		}
	}
}

// checkNotes holds Worth, Plus and Count of n and d against numbers without bounds.
func checkNotes(t *testing.T, n, d api.Notes) {
	t.Helper()
	worth, count := new(big.Int), new(big.Int)
	var plus api.Notes
	worthOK, plusOK := true, true
	for i := range n {
		x, y := big.NewInt(int64(n[i])), big.NewInt(int64(d[i]))
		product, sum := new(big.Int).Mul(x, y), new(big.Int).Add(x, y)
		worth.Add(worth, product)
		count.Add(count, x)
		worthOK = worthOK && product.IsInt64()
		plusOK = plusOK && sum.IsInt64()
		plus[i] = int(sum.Int64())
	}
	wantWorth, fits := has(worth)
	if worthOK = worthOK && fits; !worthOK {
		wantWorth = 0
	}
	if !plusOK {
		plus = api.Notes{}
	}
	if got, ok := Worth(n, d); got != wantWorth || ok != worthOK {
		t.Fatalf("Worth(%v, %v): %d, %v; want %d, %v", n, d, got, ok, wantWorth, worthOK)
	}
	if got, ok := Plus(n, d); got != plus || ok != plusOK {
		t.Fatalf("Plus(%v, %v): %v, %v; want %v, %v", n, d, got, ok, plus, plusOK)
	}
	wantCount, countOK := has(count)
	if got, ok := Count(n); int64(got) != wantCount || ok != countOK {
		t.Fatalf("Count(%v): %d, %v; want %d, %v", n, got, ok, wantCount, countOK)
	}
}
