package disk

import (
	"bytes"
	"math"
	"math/rand"
	"testing"

	"interleaf/api"
)

// full is a sector that begins with some bytes.
func full(p ...byte) []byte {
	return append(bytes.Clone(p), make([]byte, api.Sector-len(p))...)
}

// want holds a sector against what it should be.
func want(t *testing.T, d *Disk, at int, p []byte) {
	t.Helper()
	got, e := d.Read(at)
	if e != api.OK || !bytes.Equal(got, full(p...)) {
		t.Errorf("sector %d: %x, %d, not %x", at, got, e, p)
	}
}

func wantErr(t *testing.T, what string, got, want api.Errno) {
	t.Helper()
	if got != want {
		t.Errorf("%s: %d, not %d", what, got, want)
	}
}

func TestNewHasSectorsOfNoughts(t *testing.T) { // P4.1
	for n, sectors := range map[int]int{math.MinInt: 0, -1: 0, 0: 0, 1: 1, 50: 50, 4095: 4095, 4096: 4096, 4097: 4096, math.MaxInt: 4096} {
		d := New(n)
		if d.Sectors() != sectors || !d.On() || d.Acts() != 0 || d.Wet() != 0 {
			t.Errorf("New(%d): %d sectors", n, d.Sectors())
		}
		for at := range sectors {
			want(t, d, at, nil)
		}
		for _, at := range []int{-1, sectors, sectors + 1, math.MinInt, math.MaxInt} {
			p, e := d.Read(at)
			wantErr(t, "Read beyond", e, api.ErrArg)
			if len(p) != 0 {
				t.Error("Read beyond:", p)
			}
			wantErr(t, "Write beyond", d.Write(at, nil), api.ErrArg)
		}
	}
}

func TestWriteIsReadAtOnce(t *testing.T) { // P4.1
	d := New(3)
	whole := bytes.Repeat([]byte{7}, api.Sector)
	wantErr(t, "Write", d.Write(1, whole), api.OK)
	want(t, d, 1, whole)
	wantErr(t, "Write", d.Write(1, []byte{1, 2}), api.OK)
	want(t, d, 1, []byte{1, 2}) // noughts behind, not what was there
	want(t, d, 0, nil)
	want(t, d, 2, nil)
	wantErr(t, "Flush", d.Flush(), api.OK)
	want(t, d, 1, []byte{1, 2})
	for _, p := range [][]byte{nil, {}} {
		d.Write(1, whole)
		wantErr(t, "Write of nothing", d.Write(1, p), api.OK)
		want(t, d, 1, nil)
	}
}

func TestWriteRefusesWhatIsTooLong(t *testing.T) { // P4.1
	d := New(2)
	d.Write(0, []byte{1})
	d.Arm(1)
	for _, n := range []int{65, 66, 1000} {
		wantErr(t, "too long", d.Write(0, make([]byte, n)), api.ErrArg)
		wantErr(t, "too long, beyond", d.Write(2, make([]byte, n)), api.ErrArg)
	}
	if d.Acts() != 1 || d.Wet() != 1 || !d.On() {
		t.Errorf("refused, and counted: %d acts, %d wet", d.Acts(), d.Wet())
	}
	want(t, d, 0, []byte{1})
	wantErr(t, "the one that goes well", d.Write(0, make([]byte, 64)), api.OK)
	wantErr(t, "the one that stops it", d.Write(0, nil), api.ErrOff)
}

func TestWetAndActsCount(t *testing.T) { // P4.1
	d := New(4)
	count := func(wet, acts int) {
		t.Helper()
		if d.Wet() != wet || d.Acts() != acts {
			t.Errorf("%d wet, %d acts, not %d, %d", d.Wet(), d.Acts(), wet, acts)
		}
	}
	count(0, 0)
	d.Flush()
	count(0, 1)
	d.Write(0, []byte{1})
	d.Write(0, []byte{1}) // the same sector: another write
	count(2, 3)
	d.Read(0)
	count(2, 3)
	d.Flush()
	count(0, 4)
	d.Write(3, nil)
	count(1, 5)
	d.Crash(nil)
	count(0, 5)
}

func TestArmStopsAtTheNextAct(t *testing.T) { // P4.2
	for acts := range 6 {
		for _, last := range []string{"write", "flush"} {
			d := New(9)
			d.Write(8, []byte{8})
			d.Flush()
			d.Arm(acts)
			for i := range acts {
				wantErr(t, "armed", d.Write(i, []byte{byte(i + 1)}), api.OK)
			}
			if !d.On() {
				t.Fatal("stopped too soon")
			}
			wet := acts
			if last == "write" {
				wantErr(t, "a Write that stops it", d.Write(8, []byte{9}), api.ErrOff)
				wet++
			} else {
				wantErr(t, "a Flush that stops it", d.Flush(), api.ErrOff)
			}
			if d.On() || d.Wet() != wet || d.Acts() != 3+acts {
				t.Errorf("%s behind %d: %v, %d wet, %d acts", last, acts, d.On(), d.Wet(), d.Acts())
			}
			stopped(t, d)
			lost := d.Twin()
			lost.Crash(nil)
			want(t, lost, 8, []byte{8})
			want(t, lost, 0, nil)
			d.Crash([]byte{255})
			for i := range acts {
				want(t, d, i, []byte{byte(i + 1)})
			}
			want(t, d, 8, []byte{byte(8 + wet - acts)})
		}
	}
}

// stopped tells that nothing happens to a disk any more.
func stopped(t *testing.T, d *Disk) {
	t.Helper()
	wet, acts := d.Wet(), d.Acts()
	for range 2 {
		p, e := d.Read(0)
		wantErr(t, "Read", e, api.ErrOff)
		if len(p) != 0 {
			t.Error("Read:", p)
		}
		wantErr(t, "Write", d.Write(0, []byte{77}), api.ErrOff)
		wantErr(t, "Flush", d.Flush(), api.ErrOff)
		_, e = d.Read(d.Sectors())
		wantErr(t, "Read beyond", e, api.ErrArg)
		_, e = d.Read(-1)
		wantErr(t, "Read below", e, api.ErrArg)
		wantErr(t, "Write beyond", d.Write(d.Sectors(), nil), api.ErrArg)
		wantErr(t, "Write too long", d.Write(0, make([]byte, 65)), api.ErrArg)
		d.Arm(-1) // a stopped one doesn't go on by it
		d.Arm(7)
	}
	if d.On() || d.Wet() != wet || d.Acts() != acts {
		t.Errorf("something has happened: %v, %d wet, %d acts", d.On(), d.Wet(), d.Acts())
	}
}

func TestArmBelowNoughtStopsNothing(t *testing.T) { // P4.2
	for _, acts := range []int{-1, -2, math.MinInt} {
		d := New(1)
		d.Arm(0)
		d.Arm(acts)
		for range 20 {
			wantErr(t, "Write", d.Write(0, nil), api.OK)
			wantErr(t, "Flush", d.Flush(), api.OK)
		}
	}
	d := New(1)
	d.Arm(math.MaxInt)
	wantErr(t, "Write", d.Write(0, nil), api.OK)
}

func TestArmCountsAnew(t *testing.T) { // P4.2
	d := New(1)
	d.Arm(2)
	d.Flush()
	d.Arm(2)
	wantErr(t, "first", d.Flush(), api.OK)
	d.Read(0) // no act
	wantErr(t, "second", d.Flush(), api.OK)
	wantErr(t, "third", d.Flush(), api.ErrOff)
}

func TestCrashExample(t *testing.T) { // P4.2
	for _, none := range [][]byte{nil, {}, {0}, {0xfe}} {
		d := New(1)
		d.Write(0, []byte("a"))
		d.Crash(none)
		want(t, d, 0, nil)
	}
	d := New(1)
	d.Write(0, []byte("a"))
	d.Crash([]byte{1})
	want(t, d, 0, []byte("a"))
}

func TestCrashTakesTheMaskAgainAndAgain(t *testing.T) { // P4.2
	for _, mask := range [][]byte{nil, {1}, {0x80}, {0x55, 0xf0}, {0, 255, 3}, {1, 2, 3, 4, 5, 6, 7}} {
		d := New(60)
		for i := range 60 {
			d.Write(i, []byte{byte(i + 1)})
		}
		d.Crash(mask)
		for i := range 60 {
			kept := len(mask) > 0 && mask[(i/8)%len(mask)]&(1<<(i%8)) != 0
			if kept {
				want(t, d, i, []byte{byte(i + 1)})
			} else {
				want(t, d, i, nil)
			}
		}
	}
}

func TestCrashPicksWritesOfOneSector(t *testing.T) { // P4.2
	for mask, last := range map[byte]byte{0: 9, 1: 1, 2: 2, 3: 2, 4: 3, 5: 3, 6: 3, 7: 3, 0xf8: 9} {
		d := New(2)
		d.Write(1, []byte{9})
		d.Flush()
		for i := range 3 {
			d.Write(1, []byte{byte(i + 1)})
		}
		d.Crash([]byte{mask})
		want(t, d, 1, []byte{last})
		d.Crash(nil) // what is safe stays
		want(t, d, 1, []byte{last})
	}
}

func TestCrashGoesOnUnarmed(t *testing.T) { // P4.2
	d := New(1)
	d.Arm(0)
	d.Flush()
	d.Arm(0)
	d.Crash(nil)
	if !d.On() || d.Acts() != 1 {
		t.Error("it hasn't gone on", d.Acts())
	}
	for range 5 {
		wantErr(t, "Write", d.Write(0, []byte{4}), api.OK)
		wantErr(t, "Flush", d.Flush(), api.OK)
	}
	d.Arm(3)
	d.Crash(nil) // one that hasn't stopped
	for range 5 {
		wantErr(t, "Flush", d.Flush(), api.OK)
	}
	want(t, d, 0, []byte{4})
}

func TestTwinIsAnother(t *testing.T) { // P4.2
	d := New(3)
	d.Write(0, []byte{1})
	d.Flush()
	d.Write(1, []byte{2})
	d.Arm(1)
	a, b := d.Twin(), d.Twin()
	a.Write(0, []byte{5})
	a.Crash([]byte{3})
	want(t, a, 0, []byte{5})
	want(t, a, 1, []byte{2})
	want(t, d, 0, []byte{1})
	if d.Wet() != 1 || d.Acts() != 3 || b.Wet() != 1 || b.Acts() != 3 || b.Sectors() != 3 {
		t.Error("of one, and not of the other:", d.Wet(), d.Acts(), b.Wet(), b.Acts())
	}
	d.Write(2, []byte{3})
	b.Write(2, []byte{4})
	want(t, d, 2, []byte{3})
	want(t, b, 2, []byte{4})
	wantErr(t, "it is armed, and so is the twin", b.Flush(), api.ErrOff)
	if !d.On() {
		t.Error("the twin stops, and it does too")
	}
	c := b.Twin()
	if c.On() || c.Wet() != 2 {
		t.Error("a stopped one's twin", c.Wet())
	}
	stopped(t, c)
	b.Crash(nil)
	if c.On() {
		t.Error("it goes on, and its twin does too")
	}
}

func TestNilDisk(t *testing.T) { // P1, P4.2
	var d *Disk
	if d.Sectors() != 0 || d.On() || d.Acts() != 0 || d.Wet() != 0 || d.Twin() != nil {
		t.Error("nil")
	}
	for _, at := range []int{-1, 0, 1} {
		p, e := d.Read(at)
		wantErr(t, "Read", e, api.ErrArg)
		if len(p) != 0 {
			t.Error("Read:", p)
		}
		wantErr(t, "Write", d.Write(at, []byte{1}), api.ErrArg)
	}
	wantErr(t, "Flush", d.Flush(), api.ErrNone)
	d.Arm(0)
	d.Crash([]byte{1})
}

func TestNoSectors(t *testing.T) { // P1, P4.1
	d := New(0)
	wantErr(t, "Flush", d.Flush(), api.OK)
	d.Arm(0)
	wantErr(t, "Flush", d.Flush(), api.ErrOff)
	d.Crash([]byte{255})
	if !d.On() || d.Acts() != 2 || d.Twin().Sectors() != 0 {
		t.Error(d.Acts())
	}
}

func TestDiskHasItsOwnBytes(t *testing.T) { // P2, and the rule on memory
	d := New(1)
	over := func(p []byte) {
		for i := range p {
			p[i] = 'x'
		}
		_ = append(p, 'y')
	}
	for _, flushed := range []bool{false, true} {
		p := []byte("abc")
		d.Write(0, p)
		over(p)
		if flushed {
			d.Flush()
		}
		got, _ := d.Read(0)
		over(got)
		want(t, d, 0, []byte("abc"))
	}
	p := []byte("abcdef")
	d.Write(0, p[:2])
	if string(p) != "abcdef" {
		t.Errorf("handed in, and changed: %q", p)
	}
	mask := []byte{1}
	d.Crash(mask)
	if mask[0] != 1 {
		t.Error("the mask was changed")
	}
}

// A plain model: all sectors that are safe, all writes behind, and how many acts go well.
type model struct {
	safe map[int]byte
	wet  [][2]int
	left int
	off  bool
	acts int
}

func (m *model) act() api.Errno {
	m.acts++
	m.left--
	m.off = m.left == -1
	if m.off {
		return api.ErrOff
	}
	return api.OK
}

func (m *model) write(at int, b byte) api.Errno {
	if m.off {
		return api.ErrOff
	}
	m.wet = append(m.wet, [2]int{at, int(b)})
	return m.act()
}

func (m *model) flush() api.Errno {
	if m.off {
		return api.ErrOff
	}
	e := m.act()
	if e == api.OK {
		m.settle(func(int) bool { return true })
	}
	return e
}

func (m *model) settle(kept func(int) bool) {
	for i, w := range m.wet {
		if kept(i) {
			m.safe[w[0]] = byte(w[1])
		}
	}
	m.wet = nil
}

func (m *model) read(at int) byte {
	b := m.safe[at]
	for _, w := range m.wet {
		if w[0] == at {
			b = byte(w[1])
		}
	}
	return b
}

func TestManyActs(t *testing.T) { // P4.1, P4.2, P2
	r := rand.New(rand.NewSource(4))
	const never, sectors = 1 << 40, 6
	for range 300 {
		d, m := New(sectors), &model{safe: map[int]byte{}, left: never}
		for range 80 {
			switch at, b := r.Intn(sectors), byte(r.Intn(256)); r.Intn(12) {
			default:
				wantErr(t, "Write", d.Write(at, []byte{b}), m.write(at, b))
			case 0, 1:
				wantErr(t, "Flush", d.Flush(), m.flush())
			case 2:
				if n := r.Intn(12) - 1; !m.off {
					d.Arm(n)
					m.left = n
					if n < 0 {
						m.left = never
					}
				}
			case 3:
				mask := make([]byte, r.Intn(3))
				r.Read(mask)
				d.Crash(mask)
				m.settle(func(i int) bool { return len(mask) > 0 && mask[i/8%len(mask)]&(1<<(i%8)) != 0 })
				m.off, m.left = false, never
			case 4:
				d = d.Twin()
			}
			if d.On() == m.off || d.Wet() != len(m.wet) || d.Acts() != m.acts {
				t.Fatalf("%v, %d wet, %d acts; not %v, %d, %d", d.On(), d.Wet(), d.Acts(), !m.off, len(m.wet), m.acts)
			}
			for at := range sectors {
				if m.off {
					_, e := d.Read(at)
					wantErr(t, "Read", e, api.ErrOff)
				} else {
					want(t, d, at, []byte{m.read(at)})
				}
			}
		}
	}
}
