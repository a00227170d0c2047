package journal

import (
	"bytes"
	"math"
	"math/rand"
	"slices"
	"testing"

	"interleaf/api"
	"interleaf/check"
	"interleaf/disk"
)

// full is a sector that begins with some bytes.
func full(p []byte) []byte {
	return append(bytes.Clone(p), make([]byte, api.Sector-len(p))...)
}

// whole is a sector without a nought, of which every byte is another one.
func whole(first int) []byte {
	p := make([]byte, api.Sector)
	for i := range p {
		p[i] = byte(1 + (first+i)%255)
	}
	return p
}

func wantErr(t *testing.T, what string, got, want api.Errno) {
	t.Helper()
	if got != want {
		t.Errorf("%s: %d, not %d", what, got, want)
	}
}

func open(t *testing.T, d *disk.Disk) *Journal {
	t.Helper()
	j, e := Open(d)
	if e != api.OK || j == nil {
		t.Fatalf("Open: %d", e)
	}
	return j
}

// want holds a sector behind the journal against what it should be.
func want(t *testing.T, j *Journal, at int, p []byte) {
	t.Helper()
	got, e := j.Read(at)
	if e != api.OK || !bytes.Equal(got, full(p)) {
		t.Errorf("sector %d: %x, %d, not %x", at, got, e, p)
	}
}

// all is all sectors of a disk.
func all(t *testing.T, d *disk.Disk) [][]byte {
	t.Helper()
	var l [][]byte
	for at := range d.Sectors() {
		p, e := d.Read(at)
		if e != api.OK {
			t.Fatal(e)
		}
		l = append(l, p)
	}
	return l
}

func same(a, b [][]byte) bool {
	return slices.EqualFunc(a, b, bytes.Equal)
}

// lay writes a journal's sectors by hand: a head, and both halves of each page.
func lay(d *disk.Disk, number int, l ...Page) {
	d.Write(0, append(check.Four(number), check.Four(len(l))...))
	for i, p := range l {
		s := full(p.P)
		for k := range 2 {
			head := append(check.Four(number), check.Four(p.At)...)
			d.Write(1+2*i+k, append(head, s[32*k:32*k+32]...))
		}
	}
	d.Flush()
}

func TestOpenAsksForMoreThanSize(t *testing.T) { // P5.1
	if Most != 24 || Size != 49 {
		t.Error(Most, Size)
	}
	for _, n := range []int{0, 1, 48, 49} {
		d := disk.New(n)
		for range 2 {
			j, e := Open(d)
			wantErr(t, "too small", e, api.ErrArg)
			if j != nil {
				t.Error("beside an error, a journal")
			}
			d.Arm(0)
			d.Flush() // one that has stopped is too small all the same
		}
	}
	j, e := Open(nil)
	wantErr(t, "no disk", e, api.ErrArg)
	if j != nil {
		t.Error("of no disk, a journal")
	}
	for n, behind := range map[int]int{50: 1, 51: 2, 60: 11, 4096: 4047} {
		d := disk.New(n)
		j := open(t, d)
		if j.Sectors() != behind || !j.On() || d.Acts() != 0 || d.Wet() != 0 {
			t.Errorf("%d: %d sectors, %d acts", n, j.Sectors(), d.Acts())
		}
	}
}

func TestOpenOfAStoppedDisk(t *testing.T) { // P5.1
	d := disk.New(60)
	d.Arm(0)
	d.Flush()
	j, e := Open(d)
	wantErr(t, "stopped", e, api.ErrOff)
	if j != nil {
		t.Error("beside an error, a journal")
	}
}

func TestReadIsBehindTheJournal(t *testing.T) { // P5.1
	d := disk.New(52)
	for at := range 52 {
		d.Write(at, []byte{0, 0, 0, 0, byte(at)})
	}
	j := open(t, d)
	for at := range 3 {
		want(t, j, at, []byte{0, 0, 0, 0, byte(49 + at)})
	}
	for _, at := range []int{3, 4, 52, -1, -49, -50, math.MinInt, math.MaxInt, math.MaxInt - 48} {
		p, e := j.Read(at)
		wantErr(t, "Read", e, api.ErrArg)
		if len(p) != 0 {
			t.Error(at, p)
		}
	}
	d.Arm(0)
	d.Flush()
	_, e := j.Read(0)
	wantErr(t, "Read, stopped", e, api.ErrOff)
	_, e = j.Read(3)
	wantErr(t, "Read beyond, stopped", e, api.ErrArg)
	if j.On() {
		t.Error("stopped, and on")
	}
	d.Crash(nil)
	if !j.On() {
		t.Error("on, and stopped")
	}
}

func TestNilJournal(t *testing.T) { // P1, P5.1, P5.2
	for _, j := range []*Journal{nil, {}} {
		if j.Sectors() != 0 || j.On() {
			t.Error(j.Sectors(), j.On())
		}
		for _, at := range []int{-1, 0, 1} {
			p, e := j.Read(at)
			wantErr(t, "Read", e, api.ErrArg)
			if len(p) != 0 {
				t.Error(p)
			}
		}
		j.Write([]Page{{}})
	}
	var j *Journal
	for _, l := range [][]Page{nil, {}, {{At: 0}}, {{At: -1}}, make([]Page, 25)} {
		wantErr(t, "Write", j.Write(l), api.ErrNone)
	}
}

func TestWriteLaysOut(t *testing.T) { // P5.1, P5.2
	d := disk.New(60)
	j := open(t, d)
	l := []Page{{10, whole(1)}, {0, []byte("short")}, {3, nil}, {4, whole(90)[:33]}}
	wantErr(t, "Write", j.Write(l), api.OK)
	if d.Acts() != 2*4+1+1+4+1 || d.Wet() != 0 {
		t.Errorf("%d acts, %d wet", d.Acts(), d.Wet())
	}
	model := disk.New(60)
	lay(model, 1, l...)
	for _, p := range l {
		model.Write(49+p.At, p.P)
	}
	if !same(all(t, d), all(t, model)) {
		t.Error("it is laid out otherwise")
	}
	wantErr(t, "Write", j.Write([]Page{{1, whole(7)}}), api.OK)
	for i := range 2 { // the first page's halves; those of others stay
		head := append(check.Four(2), check.Four(1)...)
		model.Write(1+i, append(head, whole(7)[32*i:32*i+32]...))
	}
	model.Write(0, append(check.Four(2), check.Four(1)...))
	model.Write(50, whole(7))
	if !same(all(t, d), all(t, model)) {
		t.Error("the second one is laid out otherwise")
	}
}

// only keeps of a disk's writes the i-th one.
func only(i int) []byte {
	mask := make([]byte, 100)
	mask[i/8] = 1 << (i % 8)
	return mask
}

func TestWriteActsInOrder(t *testing.T) { // P5.2
	l := []Page{{5, whole(1)}, {2, whole(2)}, {9, whole(3)}}
	order := []int{1, 2, 3, 4, 5, 6, 0, -1, 54, 51, 58, -1} // sectors; below 0: a Flush
	for stop, at := range order {
		d := disk.New(60)
		j := open(t, d)
		d.Arm(stop)
		wantErr(t, "a Write that stops", j.Write(l), api.ErrOff)
		if at < 0 {
			d.Crash(nil)
			if p, _ := d.Read(order[stop-1]); p[0] != 0 {
				t.Errorf("act %d is no Flush", stop)
			}
			continue
		}
		d.Crash(only(d.Wet() - 1)) // what stopped it, and not what was ahead of it since the Flush
		got := all(t, d)
		if bytes.Equal(got[at], make([]byte, 64)) {
			t.Errorf("act %d isn't a Write of sector %d", stop, at)
		}
		for _, other := range order {
			if safe := stop > 7 && other <= 6; other >= 0 && other != at && !safe && !bytes.Equal(got[other], make([]byte, 64)) {
				t.Errorf("act %d is a Write of sector %d", stop, other)
			}
		}
	}
	d := disk.New(60)
	j := open(t, d)
	d.Arm(len(order))
	wantErr(t, "Write", j.Write(l), api.OK)
}

func TestWriteRefuses(t *testing.T) { // P5.2
	d := disk.New(60)
	j := open(t, d)
	good := Page{3, []byte("a")}
	wantErr(t, "Write", j.Write([]Page{good}), api.OK)
	before, acts := all(t, d), d.Acts()
	bad := []Page{{11, nil}, {12, nil}, {-1, nil}, {-49, nil}, {-50, nil}, {math.MinInt, nil}, {math.MaxInt, nil}, {math.MaxInt - 48, nil}, {0, make([]byte, 65)}, {10, make([]byte, 1000)}}
	for _, p := range bad {
		for _, l := range [][]Page{{p}, {p, good}, {good, good, p}} {
			wantErr(t, "bad", j.Write(l), api.ErrArg)
		}
	}
	for _, n := range []int{25, 26, 100} {
		wantErr(t, "more than Most", j.Write(make([]Page, n)), api.ErrLong)
		wantErr(t, "more than Most, one bad", j.Write(append(make([]Page, n), bad[0])), api.ErrLong)
	}
	wantErr(t, "nil", j.Write(nil), api.OK)
	wantErr(t, "none", j.Write([]Page{}), api.OK)
	if d.Acts() != acts || !same(all(t, d), before) {
		t.Error("something was written")
	}
	wantErr(t, "Most", j.Write(make([]Page, 24)), api.OK)
	if p, _ := d.Read(0); check.Number(p) != 2 {
		t.Error("what is refused uses a number")
	}
	d.Arm(0)
	wantErr(t, "it stops", j.Write([]Page{good}), api.ErrOff)
	wantErr(t, "bad, stopped", j.Write([]Page{bad[0]}), api.ErrArg)
	wantErr(t, "stopped", j.Write([]Page{good}), api.ErrOff)
}

func TestWriteOfOnePlaceTwice(t *testing.T) { // P5.2: in order
	for stop := -1; stop < 12; stop++ {
		d := disk.New(50)
		j := open(t, d)
		d.Arm(stop)
		e := j.Write([]Page{{0, whole(1)}, {0, []byte("b")}, {0, []byte("c")}})
		d.Crash([]byte{255})
		k := open(t, d)
		if stop < 6 && stop >= 0 {
			want(t, k, 0, nil)
		} else {
			want(t, k, 0, []byte("c"))
		}
		if stop < 0 {
			wantErr(t, "Write", e, api.OK)
		}
	}
}

func TestNumbersRise(t *testing.T) { // P5.2
	for at := range Size { // any sector's number counts, be it of what is all there, or not
		for _, number := range []int{1, 7, 1 << 24, 1<<31 - 1, 1 << 31, 1<<32 - 4} {
			d := disk.New(51)
			d.Write(at, check.Four(number))
			j := open(t, d)
			for i := range 3 {
				wantErr(t, "Write", j.Write([]Page{{1, nil}}), api.OK)
				for sector := range 3 {
					if p, _ := d.Read(sector); check.Number(p) != number+1+i {
						t.Errorf("sector %d had %d: %d", at, number, check.Number(p))
					}
				}
				if i == 1 {
					j = open(t, d)
				}
			}
		}
	}
	d := disk.New(51)
	d.Write(49, check.Four(9)) // it isn't the journal's
	j := open(t, d)
	j.Write([]Page{{1, nil}})
	if p, _ := d.Read(0); check.Number(p) != 1 {
		t.Error(check.Number(p))
	}
}

func TestNumbersEnd(t *testing.T) { // P5.2, P5.3: a number that no sector has, and not 0
	for _, first := range []int{1<<32 - 2, 1<<32 - 1} {
		d := disk.New(60)
		d.Write(48, check.Four(first))
		d.Write(40, check.Four(2))
		d.Flush()
		old := byte(0)
		for round := range 20 {
			used := map[int]int{0: 1}
			for at := range Size {
				p, _ := d.Read(at)
				used[check.Number(p)]++
			}
			j := open(t, d)
			now := byte(round + 1)
			d.Arm(round)
			e := j.Write([]Page{{1, []byte{now}}, {2, []byte{now}}})
			d.Crash([]byte{0xff})
			if p, _ := d.Read(0); round > 4 && used[check.Number(p)] > 0 {
				t.Fatalf("%d is used twice", check.Number(p))
			}
			k := open(t, d)
			a, _ := k.Read(1)
			b, _ := k.Read(2)
			if a[0] != b[0] || a[0] != old && a[0] != now || e == api.OK && a[0] != now {
				t.Fatalf("round %d: %d, %d", round, a[0], b[0])
			}
			old = a[0]
		}
	}
}

func TestNumbersEndAndNoneIsNought(t *testing.T) { // P5.2, P5.3
	d := disk.New(60)
	for at := range Size {
		d.Write(at, append(check.Four(1<<32-1-at), check.Four(99)...))
	}
	d.Flush()
	j := open(t, d)
	d.Arm(5) // it stops at the first Flush, and all is kept
	wantErr(t, "Write", j.Write([]Page{{1, whole(1)}, {2, whole(2)}}), api.ErrOff)
	d.Crash([]byte{255})
	k := open(t, d)
	want(t, k, 1, whole(1))
	want(t, k, 2, whole(2))
}

func TestOpenDoesWhatIsAllThere(t *testing.T) { // P5.1
	var most []Page
	for i := range Most {
		most = append(most, Page{23 - i, whole(i)})
	}
	for _, number := range []int{1, 2, 255, 1 << 31, 1<<32 - 1} {
		for _, l := range [][]Page{nil, {{0, whole(3)}}, {{10, []byte("a")}, {3, nil}}, {{1, whole(3)}, {1, whole(4)}}, most} {
			d := disk.New(73)
			for at := 49; at < 73; at++ {
				d.Write(at, []byte("old"))
			}
			lay(d, number, l...)
			acts, model := d.Acts(), d.Twin()
			j := open(t, d)
			for _, p := range l {
				model.Write(49+p.At, p.P)
			}
			if d.Acts() != acts+len(l)+1 || d.Wet() != 0 || !same(all(t, d), all(t, model)) {
				t.Errorf("number %d, %d pages: %d acts", number, len(l), d.Acts()-acts)
			}
			if j.Sectors() != 24 {
				t.Error(j.Sectors())
			}
		}
	}
}

func TestOpenFlushes(t *testing.T) { // P5.1
	d := disk.New(60)
	lay(d, 3, Page{4, whole(1)}, Page{5, whole(2)})
	acts := d.Acts()
	for stop := range 3 {
		d.Arm(stop)
		j, e := Open(d)
		wantErr(t, "it stops in Open", e, api.ErrOff)
		if j != nil || d.Acts() != acts+stop+1 {
			t.Error(stop, d.Acts())
		}
		acts = d.Acts()
		d.Crash(nil)
	}
	d.Arm(3)
	j := open(t, d)
	d.Crash(nil)
	want(t, j, 4, whole(1))
	want(t, j, 5, whole(2))
}

func TestOpenLeavesWhatIsNotAllThere(t *testing.T) { // P5.1
	pages := []Page{{4, whole(1)}, {5, whole(2)}, {6, whole(3)}}
	spoil := map[string]func(d *disk.Disk){
		"no number":           func(d *disk.Disk) { lay(d, 0, pages...) },
		"another head":        func(d *disk.Disk) { d.Write(0, append(check.Four(8), check.Four(3)...)) },
		"no head":             func(d *disk.Disk) { d.Write(0, nil) },
		"one page more":       func(d *disk.Disk) { d.Write(0, append(check.Four(7), check.Four(4)...)) },
		"more than Most":      func(d *disk.Disk) { d.Write(0, append(check.Four(7), check.Four(25)...)) },
		"as many as there go": func(d *disk.Disk) { d.Write(0, append(check.Four(7), check.Four(-1)...)) },
	}
	for at := 1; at <= 6; at++ {
		for _, number := range []int{0, 6, 8, 7 + 1<<8, 7 + 1<<31} {
			spoil[string(rune('0'+at))+string(check.Four(number))] = func(d *disk.Disk) {
				p, _ := d.Read(at)
				d.Write(at, append(check.Four(number), p[4:]...))
			}
		}
	}
	for name, f := range spoil {
		d := disk.New(60)
		lay(d, 7, pages...)
		f(d)
		before, acts := all(t, d), d.Acts()
		open(t, d)
		if !same(before, all(t, d)) || d.Acts() != acts {
			t.Errorf("%q: something was done", name)
		}
	}
	for _, pages := range []int{25, 26, 1 << 31, -1} { // all sectors have the number, but there are too many pages
		d := disk.New(80)
		lay(d, 7, make([]Page, Most)...)
		d.Write(49, []byte("old"))
		d.Write(0, append(check.Four(7), check.Four(pages)...))
		j := open(t, d)
		want(t, j, 0, []byte("old"))
	}
	d := disk.New(60)
	lay(d, 7, pages...)
	d.Write(7, check.Four(9))
	open(t, d)
	if p, _ := d.Read(49 + 6); !bytes.Equal(p, whole(3)) {
		t.Error("a sector that isn't of these pages is asked for")
	}
}

func TestOpenOfPlacesThatAreNotThere(t *testing.T) { // P5.1: the disk's error, and nothing has changed
	for _, at := range []int{11, 12, 60, 1 << 31, 1<<32 - 1, 1<<32 - 49} {
		d := disk.New(60)
		lay(d, 7, Page{4, whole(1)}, Page{at, whole(2)}, Page{6, whole(3)})
		before, wet := all(t, d), d.Wet()
		j, e := Open(d)
		wantErr(t, "no such place", e, api.ErrArg)
		if j != nil || !same(before, all(t, d)) || d.Wet() != wet {
			t.Error("something was done", at)
		}
	}
}

// settle opens a disk that stops again and again, by what is told of each time; then it opens it to the end.
func settle(t *testing.T, d *disk.Disk, stops []int, mask []byte) *Journal {
	t.Helper()
	for _, stop := range stops {
		d.Arm(stop)
		Open(d)
		d.Crash(mask)
	}
	return open(t, d)
}

func TestExample(t *testing.T) { // the chapter's example
	for _, mask := range [][]byte{nil, {255}, {1}, {2}} {
		d := disk.New(60)
		j := open(t, d)
		d.Arm(2*2 + 1 + 1 + 2)
		wantErr(t, "Write", j.Write([]Page{{3, whole(3)}, {4, whole(4)}}), api.ErrOff)
		d.Crash(mask)
		k := open(t, d)
		want(t, k, 3, whole(3))
		want(t, k, 4, whole(4))
	}
}

func TestAllOrNoneEverywhere(t *testing.T) { // P3, P5.3: each act, each choice of what is kept, and a stop in each act of Open
	old := []Page{{0, whole(1)}, {1, whole(2)}, {2, whole(3)}}
	l := []Page{{2, whole(11)}, {0, []byte("new")}}
	base := disk.New(52)
	wantErr(t, "Write", open(t, base).Write(old), api.OK)
	for stop := range 10 {
		for keep := range 32 {
			for again := -1; again < 5; again++ {
				for _, kept := range []byte{0, 1, 2, 4, 6, 255} {
					d := base.Twin()
					j := open(t, d)
					d.Arm(stop)
					e := j.Write(l)
					if (e == api.OK) != (stop == 9) {
						t.Fatal(stop, e)
					}
					d.Crash([]byte{byte(keep)})
					k := settle(t, d, []int{again}, []byte{kept})
					p, _ := k.Read(0)
					done := p[0] == 'n'
					if stop < 4 && done || stop > 5 && !done {
						t.Fatalf("stop %d, kept %b: done: %v", stop, keep, done)
					}
					if done {
						want(t, k, 0, []byte("new"))
						want(t, k, 2, whole(11))
					} else {
						want(t, k, 0, whole(1))
						want(t, k, 2, whole(3))
					}
					want(t, k, 1, whole(2))
				}
			}
		}
	}
}

// change is up to Most pages, and the sectors as they want them.
func change(r *rand.Rand, now [][]byte) ([]Page, [][]byte) {
	next := slices.Clone(now)
	var l []Page
	most := 1 + r.Intn(Most)
	if r.Intn(2) == 0 {
		most = 1 + r.Intn(3)
	}
	for range most {
		p := Page{r.Intn(len(now)), make([]byte, r.Intn(api.Sector+1))}
		r.Read(p.P)
		l = append(l, p)
		next[p.At] = full(p.P)
	}
	return l, next
}

func TestManyWritesAndStops(t *testing.T) { // P3, P5.2, P5.3
	r := rand.New(rand.NewSource(5))
	bits := func() []byte {
		mask := make([]byte, r.Intn(12))
		r.Read(mask)
		if r.Intn(2) == 0 { // nearly all is kept
			for i := range mask {
				mask[i] |= byte(r.Intn(256)) | byte(r.Intn(256)) | byte(r.Intn(256))
			}
		}
		return mask
	}
	for range 60 {
		d := disk.New(49 + 1 + r.Intn(30))
		j := open(t, d)
		now := all(t, d)[Size:]
		for range 40 {
			l, next := change(r, now)
			d.Arm(r.Intn(6*len(l)+8) - 2)
			e := j.Write(l)
			if e == api.OK {
				now = next
			}
			if e != api.OK || r.Intn(8) == 0 {
				d.Crash(bits())
				for range r.Intn(4) {
					d.Arm(r.Intn(30))
					Open(d)
					d.Crash(bits())
				}
				j = open(t, d)
			}
			d.Arm(-1)
			switch got := all(t, d)[Size:]; {
			case same(got, now):
			case same(got, next):
				now = next
			default:
				t.Fatalf("%d pages, %d: neither all nor none", len(l), e)
			}
		}
	}
}

func TestJournalHasItsOwnBytes(t *testing.T) { // P2, and the rule on memory
	d := disk.New(60)
	j := open(t, d)
	p := []byte("abcdef")
	l := []Page{{3, p[:3]}, {4, p[3:]}}
	wantErr(t, "Write", j.Write(l), api.OK)
	if string(p) != "abcdef" || l[0].At != 3 || l[1].At != 4 || len(l[0].P) != 3 || len(l[1].P) != 3 {
		t.Error("handed in, and changed", p, l)
	}
	copy(p, "xxxxxx")
	l[0].At, l[1].At = 7, 8
	got, _ := j.Read(3)
	copy(got, "yyyyyy")
	_ = append(got, 'z')
	for range 2 {
		want(t, j, 3, []byte("abc"))
		want(t, j, 4, []byte("def"))
		want(t, j, 7, nil)
		j = open(t, d)
	}
}
