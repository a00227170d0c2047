package extent

import (
	"math"
	"math/rand"
	"testing"
)

// model is the same, place by place: which are taken.
type model []bool

// all tells whether the n places from at on are there, and all taken, or all free.
func (p model) all(at, n int, taken bool) bool {
	if n < 0 || at < 0 || at > len(p) || n > len(p)-at {
		return false
	}
	for _, is := range p[at : at+n] {
		if is != taken {
			return false
		}
	}
	return true
}

func (p model) set(at, n int, taken bool) bool {
	if !p.all(at, n, !taken) {
		return false
	}
	for i := range n {
		p[at+i] = taken
	}
	return true
}

func (p model) find(n int) int {
	for at := range p {
		if n > 0 && p.all(at, n, false) {
			return at
		}
	}
	return -1
}

// of is a Map of which just those places are taken that have a bit of a number.
func of(t *testing.T, n int, bits int) (*Map, model) {
	t.Helper()
	m, p := New(n), make(model, n)
	for at := range n {
		if bits>>at&1 == 1 {
			p[at] = true
			if !m.Take(at, 1) {
				t.Fatalf("Take(%d, 1) of %b", at, bits)
			}
		}
	}
	return m, p
}

// same holds all that a Map tells against what it should be.
func same(t *testing.T, m *Map, p model) {
	t.Helper()
	left := 0
	for at, taken := range p {
		if m.Used(at) != taken {
			t.Fatalf("Used(%d) = %v: %v", at, !taken, p)
		}
		if !taken {
			left++
		}
	}
	if m.Len() != len(p) || m.Left() != left {
		t.Fatalf("Len %d, Left %d, not %d, %d: %v", m.Len(), m.Left(), len(p), left, p)
	}
	for _, at := range []int{math.MinInt, -2, -1, len(p), len(p) + 1, math.MaxInt} {
		if m.Used(at) {
			t.Fatalf("Used(%d), of %d", at, len(p))
		}
	}
	for n := -2; n < len(p)+3; n++ {
		if got := m.Find(n); got != p.find(n) {
			t.Fatalf("Find(%d) = %d, not %d: %v", n, got, p.find(n), p)
		}
	}
}

func TestExample(t *testing.T) { // P6.1, and the fifth example of the whole
	m := New(5)
	if !m.Take(1, 2) || m.Find(2) != 3 {
		t.Errorf("Find(2) = %d", m.Find(2))
	}
}

func TestNew(t *testing.T) { // P6.1
	for _, n := range []int{0, 1, 2, 5, 64, 1000} {
		same(t, New(n), make(model, n))
	}
	for _, n := range []int{-1, -2, -1000, math.MinInt} {
		m := New(n)
		if m == nil || !m.Take(0, 0) || !m.Free(0, 0) || m.Take(0, 1) || m.Take(n, -n) || m.Take(n, 0) {
			t.Errorf("New(%d) isn't of no places", n)
		}
		same(t, m, nil)
	}
}

func TestTake(t *testing.T) { // P6.1
	m, p := New(8), make(model, 8)
	for _, c := range []struct {
		at, n int
		want  bool
	}{
		{1, 2, true}, {1, 2, false}, {0, 2, false}, {2, 1, false}, {2, 2, false}, {0, 8, false},
		{5, 1, true}, {4, 3, false}, {3, 3, false}, {3, 2, true}, {0, 1, true}, {6, 3, false}, {6, 2, true},
		{0, 8, false}, {7, 1, false},
	} {
		if got := m.Take(c.at, c.n); got != c.want || p.set(c.at, c.n, true) != c.want {
			t.Errorf("Take(%d, %d) = %v", c.at, c.n, got)
		}
		same(t, m, p)
	}
	if m.Left() != 0 || m.Find(1) != -1 {
		t.Error("all are taken, and some are free")
	}
}

func TestFree(t *testing.T) { // P6.1
	m, p := of(t, 8, 0xff)
	for _, c := range []struct {
		at, n int
		want  bool
	}{
		{3, 2, true}, {3, 2, false}, {2, 2, false}, {4, 2, false}, {2, 4, false}, {0, 8, false},
		{0, 1, true}, {7, 1, true}, {7, 2, false}, {1, 2, true}, {5, 2, true}, {0, 1, false}, {0, 8, false},
	} {
		if got := m.Free(c.at, c.n); got != c.want || p.set(c.at, c.n, false) != c.want {
			t.Errorf("Free(%d, %d) = %v", c.at, c.n, got)
		}
		same(t, m, p)
	}
	if m.Left() != 8 || m.Find(8) != 0 {
		t.Error("all are free, and some are taken")
	}
}

func TestFind(t *testing.T) { // P6.1
	m, _ := of(t, 12, 0b000100110010) // free: 0, 2 and 3, 6 and 7, 9 to 11
	for n, want := range map[int]int{math.MinInt: -1, -1: -1, 0: -1, 1: 0, 2: 2, 3: 9, 4: -1, 7: -1, 12: -1, 13: -1, math.MaxInt: -1} {
		if got := m.Find(n); got != want {
			t.Errorf("Find(%d) = %d, not %d", n, got, want)
		}
	}
}

func TestNonePlaces(t *testing.T) { // P6.1: none are free, and taken, too, wherever they are, up to Len
	for bits := range 32 {
		m, p := of(t, 5, bits)
		for at := -2; at < 9; at++ {
			there := at >= 0 && at <= 5
			if m.Take(at, 0) != there || m.Free(at, 0) != there {
				t.Errorf("none at %d of 5: not %v", at, there)
			}
		}
		same(t, m, p)
	}
}

func TestEachMapAndCall(t *testing.T) { // P6.1: every map of 6 places, and of fewer; every call
	for size := range 7 {
		for bits := range 1 << size {
			for at := -2; at < size+3; at++ {
				for n := -2; n < size+3; n++ {
					for _, taken := range []bool{true, false} {
						m, p := of(t, size, bits)
						call := m.Free
						if taken {
							call = m.Take
						}
						if got, want := call(at, n), p.set(at, n, taken); got != want {
							t.Fatalf("%b of %d, (%d, %d), taken %v: %v", bits, size, at, n, taken, got)
						}
						same(t, m, p)
					}
				}
			}
		}
	}
}

func TestManyCalls(t *testing.T) { // P6.1, P2
	for seed := range 60 {
		r := rand.New(rand.NewSource(int64(seed)))
		size := r.Intn(90)
		m, p := New(size), make(model, size)
		for range 300 {
			at, n, taken := r.Intn(size+4)-2, r.Intn(2+r.Intn(20))-1, r.Intn(2) == 0
			got := false
			if taken {
				got = m.Take(at, n)
			} else {
				got = m.Free(at, n)
			}
			if got != p.set(at, n, taken) {
				t.Fatalf("seed %d: (%d, %d), taken %v: %v", seed, at, n, taken, got)
			}
			same(t, m, p)
		}
	}
}

func TestGreatNumbers(t *testing.T) { // P1, P6.1: no sum is more than an int holds
	great := []int{math.MinInt, math.MinInt + 1, -1 << 31, -1, 1 << 31, math.MaxInt - 1, math.MaxInt}
	for _, bits := range []int{0, 0b01010, 0b11111} {
		m, p := of(t, 5, bits)
		for _, a := range great {
			for b := -1; b < 7; b++ {
				if m.Take(a, b) || m.Free(a, b) || m.Take(b, a) || m.Free(b, a) {
					t.Errorf("%d and %d are there, of 5", a, b)
				}
			}
			for _, b := range great {
				if m.Take(a, b) || m.Free(a, b) {
					t.Errorf("(%d, %d) are there, of 5", a, b)
				}
			}
		}
		same(t, m, p)
	}
}

func TestManyPlaces(t *testing.T) { // P1, P6.1: as many as an int tells
	for _, n := range []int{1 << 20, 1<<31 - 1, 1 << 40, math.MaxInt} {
		m := New(n)
		if m.Len() != n || m.Left() != n || m.Find(n) != 0 || m.Used(n-1) || m.Used(n) {
			t.Errorf("New(%d)", n)
		}
		if !m.Take(1, n-1) || m.Left() != 1 || m.Find(1) != 0 || m.Find(2) != -1 || !m.Used(n-1) || m.Take(n, 1) || !m.Take(n, 0) {
			t.Errorf("Take, of %d", n)
		}
		if !m.Free(n-2, 2) || m.Free(n-1, 1) || m.Left() != 3 || m.Find(2) != n-2 || m.Take(n-1, 2) || m.Take(2, n-1) {
			t.Errorf("Free, of %d", n)
		}
		if !m.Take(0, 1) || !m.Take(n-2, 2) || !m.Free(0, n) || m.Left() != n || m.Find(n) != 0 {
			t.Errorf("all, of %d", n)
		}
	}
}

func TestNil(t *testing.T) { // P1, P6.1
	var m *Map
	for _, at := range []int{math.MinInt, -1, 0, 1, math.MaxInt} {
		for _, n := range []int{math.MinInt, -1, 0, 1, math.MaxInt} {
			if m.Take(at, n) || m.Free(at, n) {
				t.Errorf("(%d, %d)", at, n)
			}
		}
		if m.Used(at) || m.Find(at) != -1 {
			t.Errorf("%d", at)
		}
	}
	if m.Left() != 0 || m.Len() != 0 {
		t.Error("Left, Len")
	}
}

func TestZeroValue(t *testing.T) { // P1: as New(0)
	var m Map
	if m.Take(0, 1) || m.Free(0, 1) || !m.Take(0, 0) || !m.Free(0, 0) {
		t.Error("a place is there")
	}
	same(t, &m, nil)
}

func TestMapsAreApart(t *testing.T) { // P2
	a, b := New(6), New(6)
	a.Take(0, 3)
	b.Take(2, 4)
	same(t, a, model{true, true, true, false, false, false})
	same(t, b, model{false, false, true, true, true, true})
}
