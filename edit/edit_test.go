package edit

import (
	"maps"
	"math"
	"math/rand"
	"slices"
	"testing"

	"interleaf/api"
)

// full is an element none of whose fields is like another one.
var full = api.Elem{ID: 7, Kind: api.Trans, Parent: 4, Order: 12, Name: "name", From: 13, To: 14, Event: "event", Guard: "guard", Action: "action"}

// wrong are numbers of which there is no field.
var wrong = []int{math.MinInt, -9, -1, 9, 10, 255, 256, math.MaxInt}

// yard is a chart of which an element stands in another one, one in itself, and one in what isn't there; 0 and numbers below it are some.
func yard() api.Chart {
	return api.Chart{
		{ID: -5, Kind: api.State, Name: "below"},
		{ID: 0, Kind: api.State, Name: "nought"},
		{ID: 2, Kind: api.State, Parent: -5, Name: "b"},
		{ID: 4, Kind: api.State, Parent: 2, Name: "d"},
		{ID: 5, Kind: api.State, Parent: 5, Name: "self"},
		{ID: 6, Kind: api.State, Parent: 99, Name: "lost"},
		full,
		{ID: 8, Kind: api.Final, Parent: 98},
	}
}

func add(e api.Elem) api.Edit {
	return api.Edit{Op: api.Add, E: e}
}

func drop(e api.Elem) api.Edit {
	return api.Edit{Op: api.Drop, E: e}
}

func set(id, field int, was, is api.Val) api.Edit {
	return api.Edit{Op: api.Set, E: api.Elem{ID: id}, Field: field, Old: was, New: is}
}

// move sets what an element stands in.
func move(id, was, is int) api.Edit {
	return set(id, api.FParent, api.Val{N: was}, api.Val{N: is})
}

// field is a field of an element, by hand.
func field(e *api.Elem, f int) (v api.Val, put func(v api.Val)) {
	switch f {
	case 0:
		return api.Val{N: int(e.Kind)}, func(v api.Val) { e.Kind = byte(v.N) }
	case 1:
		return api.Val{N: e.Parent}, func(v api.Val) { e.Parent = v.N }
	case 2:
		return api.Val{N: e.Order}, func(v api.Val) { e.Order = v.N }
	case 3:
		return api.Val{S: e.Name}, func(v api.Val) { e.Name = v.S }
	case 4:
		return api.Val{N: e.From}, func(v api.Val) { e.From = v.N }
	case 5:
		return api.Val{N: e.To}, func(v api.Val) { e.To = v.N }
	case 6:
		return api.Val{S: e.Event}, func(v api.Val) { e.Event = v.S }
	case 7:
		return api.Val{S: e.Guard}, func(v api.Val) { e.Guard = v.S }
	case 8:
		return api.Val{S: e.Action}, func(v api.Val) { e.Action = v.S }
	}
	return api.Val{}, func(api.Val) {}
}

// text tells whether a field is one of those of S.
func text(f int) bool {
	return f == api.FName || f >= api.FEvent
}

// refused holds One to an error of an edit, and Apply of it alone, at its place.
func refused(t *testing.T, what string, c api.Chart, x api.Edit, want api.Errno) {
	t.Helper()
	if d, e := One(c, x); e != want || len(d) > 0 {
		t.Errorf("%s: %v, %d, not %d", what, d, e, want)
	}
	if d, at, e := Apply(c, []api.Edit{x}); e != want || at != 0 || len(d) > 0 {
		t.Errorf("%s: Apply: %v, %d, %d, not %d", what, d, at, e, want)
	}
}

// leads holds One to a chart that an edit leads to, and to the way back.
func leads(t *testing.T, what string, c api.Chart, x api.Edit, want api.Chart) {
	t.Helper()
	d, e := One(c, x)
	if e != api.OK || !slices.Equal(d, want) {
		t.Errorf("%s: %v, %d, not %v", what, d, e, want)
		return
	}
	if b, at, e := Apply(d, Invert([]api.Edit{x})); e != api.OK || at != 0 || !slices.Equal(b, c) {
		t.Errorf("%s: back: %v, %d, %d", what, b, at, e)
	}
}

func TestExample(t *testing.T) { // P12.3: the chapter's example, and that of the document
	l := Invert([]api.Edit{add(api.Elem{ID: 1})})
	if !slices.Equal(l, []api.Edit{drop(api.Elem{ID: 1})}) {
		t.Error(l)
	}
}

func TestOf(t *testing.T) { // P12.1
	want := [...]byte{api.Update, api.Move, api.Order, api.Update, api.Retarget, api.Retarget, api.Update, api.Update, api.Update}
	if len(want) != api.Fields {
		t.Fatal("other fields")
	}
	for f, class := range want {
		if got := Of(f); got != class {
			t.Errorf("field %d: %d, not %d", f, got, class)
		}
	}
	for _, f := range wrong {
		if got := Of(f); got != api.Update {
			t.Errorf("field %d: %d", f, got)
		}
	}
}

func TestClass(t *testing.T) { // P12.1
	fields := append([]int{0, 1, 2, 3, 4, 5, 6, 7, 8}, wrong...)
	for _, f := range fields {
		for op := range 256 {
			want := Of(f)
			switch byte(op) {
			case api.Add:
				want = api.Twice
			case api.Drop:
				want = api.Delete
			}
			if got := Class(api.Edit{Op: byte(op), E: full, Field: f, New: api.Val{N: 3}}); got != want {
				t.Errorf("%d of field %d: %d, not %d", op, f, got, want)
			}
		}
	}
}

func TestOneAdds(t *testing.T) { // P12.2
	e := api.Elem{ID: 3, Kind: 77, Parent: 9, Order: -1, Name: "more than twelve bytes", From: 50, To: 51, Event: "\xff", Guard: "g", Action: "a"}
	a, z := api.Elem{ID: 1, Name: "a"}, api.Elem{ID: 9, Name: "z"}
	leads(t, "between", api.Chart{a, z}, add(e), api.Chart{a, e, z})
	e.Parent = 0
	for _, none := range []api.Chart{nil, {}} {
		leads(t, "into none", none, add(e), api.Chart{e})
	}
	leads(t, "behind", api.Chart{a}, add(e), api.Chart{a, e})
	leads(t, "ahead", api.Chart{z}, add(e), api.Chart{e, z})
	leads(t, "a number alone", nil, add(api.Elem{ID: 1}), api.Chart{{ID: 1}})
	for _, id := range []int{math.MinInt, -1, 1, math.MaxInt} {
		leads(t, "any number", nil, add(api.Elem{ID: id}), api.Chart{{ID: id}})
		leads(t, "in any number", api.Chart{{ID: id}}, add(api.Elem{ID: 5, Parent: id}), modelOf(api.Chart{{ID: id}, {ID: 5, Parent: id}}).chart())
	}
	leads(t, "in one with itself in it", api.Chart{{ID: 5, Parent: 5}}, add(api.Elem{ID: 6, Parent: 5}), api.Chart{{ID: 5, Parent: 5}, {ID: 6, Parent: 5}})
	leads(t, "in one that is lost", api.Chart{{ID: 5, Parent: 9}}, add(api.Elem{ID: 6, Parent: 5}), api.Chart{{ID: 5, Parent: 9}, {ID: 6, Parent: 5}})
	leads(t, "beside what stands in 0", api.Chart{{ID: 5}}, add(api.Elem{ID: 6}), api.Chart{{ID: 5}, {ID: 6}})
	leads(t, "From and To are not what it stands in", api.Chart{{ID: 5, From: 6, To: 6}}, add(api.Elem{ID: 6, From: 7, To: 8}), api.Chart{{ID: 5, From: 6, To: 6}, {ID: 6, From: 7, To: 8}})
}

func TestOneDrops(t *testing.T) { // P12.2
	c := yard()
	leads(t, "a full one", c, drop(full), slices.Delete(yard(), 6, 7))
	a, b, z := api.Elem{ID: -1, Name: "a"}, api.Elem{ID: 3, Parent: 9, Kind: 200}, api.Elem{ID: 9, Name: "z"}
	leads(t, "between", api.Chart{a, b, z}, drop(b), api.Chart{a, z})
	leads(t, "the first", api.Chart{a, b, z}, drop(a), api.Chart{b, z})
	leads(t, "the last", api.Chart{a, z}, drop(z), api.Chart{a})
	leads(t, "the only one", api.Chart{a}, drop(a), nil)
	leads(t, "what transitions mean", api.Chart{a, {ID: 3, From: 9, To: 9}, z}, drop(z), api.Chart{a, {ID: 3, From: 9, To: 9}})
}

func TestOneSets(t *testing.T) { // P12.2: each field
	for f := range api.Fields {
		for i, e := range yard() {
			if e.ID == 0 {
				continue
			}
			for _, is := range []api.Val{{N: 8}, {}, {N: 255}, {N: -5}, {S: "x"}, {S: "more than twelve bytes\xff"}, {N: 2}} {
				was, _ := field(&e, f)
				if text(f) != (is.S != "") && is != (api.Val{}) || f == api.FKind && is.N < 0 {
					continue
				}
				if f == api.FParent && (is.N == 255 || e.Parent > 90) { // ErrParent: below
					continue
				}
				want := yard()
				_, put := field(&want[i], f)
				put(is)
				leads(t, "set", yard(), set(e.ID, f, was, is), want)
			}
			was, _ := field(&e, f)
			if f != api.FParent || e.Parent < 90 {
				leads(t, "to what it is", yard(), set(e.ID, f, was, was), yard())
			}
		}
	}
	for _, n := range []int{math.MinInt, -1, math.MaxInt} {
		leads(t, "any order", api.Chart{{ID: 1}}, set(1, api.FOrder, api.Val{}, api.Val{N: n}), api.Chart{{ID: 1, Order: n}})
		leads(t, "any From", api.Chart{{ID: 1}}, set(1, api.FFrom, api.Val{}, api.Val{N: n}), api.Chart{{ID: 1, From: n}})
		leads(t, "any number", api.Chart{{ID: n}}, set(n, api.FName, api.Val{}, api.Val{S: "n"}), api.Chart{{ID: n, Name: "n"}})
	}
}

func TestOneMoves(t *testing.T) { // P12.2: what an element stands in
	moved := func(id, in int) api.Chart {
		c := yard()
		c[slices.IndexFunc(c, func(e api.Elem) bool { return e.ID == id })].Parent = in
		return c
	}
	leads(t, "into another one", yard(), move(7, 4, 2), moved(7, 2))
	leads(t, "into nothing", yard(), move(7, 4, 0), moved(7, 0))
	leads(t, "out of nothing", yard(), move(-5, 0, 8), moved(-5, 8))
	leads(t, "into itself", yard(), move(7, 4, 7), moved(7, 7))
	leads(t, "out of itself", yard(), move(5, 5, 4), moved(5, 4))
	leads(t, "into a ring", yard(), move(2, -5, 4), moved(2, 4))
	leads(t, "with what stands in it", yard(), move(4, 2, -5), moved(4, -5))
	refused(t, "into what isn't there", yard(), move(7, 4, 3), api.ErrParent)
	refused(t, "from nothing into what isn't there", yard(), move(-5, 0, 97), api.ErrParent)
	refused(t, "out of what isn't there", yard(), move(6, 99, 2), api.ErrParent)
	refused(t, "out of what isn't there, into nothing", yard(), move(6, 99, 0), api.ErrParent)
	refused(t, "from what isn't there to there", yard(), move(6, 99, 99), api.ErrParent)
	refused(t, "between two that aren't there", yard(), move(6, 99, 98), api.ErrParent)
	// Of other fields nothing must be there: 99 and 98 are in no yard.
	for _, f := range []int{api.FOrder, api.FFrom, api.FTo} {
		was, _ := field(&full, f)
		if _, e := One(yard(), set(7, f, was, api.Val{N: 98})); e != api.OK {
			t.Errorf("field %d: %d", f, e)
		}
	}
	want := yard()
	want[5].Name = "x"
	leads(t, "a name, in what isn't there", yard(), set(6, api.FName, api.Val{S: "lost"}, api.Val{S: "x"}), want)
}

func TestErrForm(t *testing.T) { // P12.2, P12.3: ahead of all others
	for _, ids := range [][]int{{1, 1}, {2, 1}, {0, 0}, {1, 2, 2}, {1, 3, 2}, {-1, -2}, {math.MaxInt, math.MinInt}} {
		var c api.Chart
		for _, id := range ids {
			c = append(c, api.Elem{ID: id})
		}
		for _, x := range []api.Edit{{}, add(api.Elem{ID: 5}), add(api.Elem{ID: 1}), drop(api.Elem{ID: 1}), drop(api.Elem{ID: 7}), move(1, 0, 9), set(2, api.FName, api.Val{S: "x"}, api.Val{})} {
			refused(t, "it doesn't rise", c, x, api.ErrForm)
			if d, at, e := Apply(c, []api.Edit{x, {}, x}); e != api.ErrForm || at != 0 || len(d) > 0 {
				t.Error(d, at, e)
			}
		}
		for _, none := range [][]api.Edit{nil, {}} {
			if d, at, e := Apply(c, none); e != api.ErrForm || at != 0 || len(d) > 0 {
				t.Error(d, at, e)
			}
		}
	}
}

func TestErrArg(t *testing.T) { // P12.2: what may not be, ahead of all but ErrForm
	e := api.Elem{ID: 2, Name: "a"}
	v, s := api.Val{N: 1}, api.Val{S: "x"}
	for what, x := range map[string]api.Edit{
		"nothing":                {},
		"no kind":                {Op: 0, E: e},
		"another kind":           {Op: 4, E: api.Elem{ID: 2}},
		"the last kind":          {Op: 255, E: api.Elem{ID: 2}},
		"Add of 0":               add(api.Elem{Name: "a"}),
		"Drop of 0":              drop(api.Elem{Name: "a"}),
		"Drop of 0 as it is":     drop(yard()[1]),
		"Add with a field":       {Op: api.Add, E: e, Field: 1},
		"Add, a field below 0":   {Op: api.Add, E: e, Field: -1},
		"Add with an Old":        {Op: api.Add, E: e, Old: v},
		"Add with an Old of S":   {Op: api.Add, E: e, Old: s},
		"Add with a New":         {Op: api.Add, E: e, New: v},
		"Add with a New of S":    {Op: api.Add, E: e, New: s},
		"Drop with a field":      {Op: api.Drop, E: e, Field: 1},
		"Drop, a field below 0":  {Op: api.Drop, E: e, Field: math.MinInt},
		"Drop with an Old":       {Op: api.Drop, E: e, Old: v},
		"Drop with an Old of S":  {Op: api.Drop, E: e, Old: s},
		"Drop with a New":        {Op: api.Drop, E: e, New: v},
		"Drop with a New of S":   {Op: api.Drop, E: e, New: s},
		"Set of 0":               set(0, api.FName, api.Val{S: "nought"}, s),
		"Set, text of a number":  set(2, api.FOrder, api.Val{}, s),
		"Set, number of a text":  set(2, api.FName, api.Val{}, v),
		"Set, old text":          set(2, api.FOrder, s, v),
		"Set, old number":        set(2, api.FName, v, s),
		"Set, both of a number":  set(2, api.FOrder, api.Val{}, api.Val{N: 1, S: "x"}),
		"Set, both of a text":    set(2, api.FName, api.Val{}, api.Val{N: 1, S: "x"}),
		"Set, kind 256":          set(2, api.FKind, v, api.Val{N: 256}),
		"Set, kind below 0":      set(2, api.FKind, v, api.Val{N: -1}),
		"Set, old kind 257":      set(2, api.FKind, api.Val{N: 257}, v),
		"Set, what isn't there":  set(99, api.FName, v, s),
		"Set, a text of Parent":  set(2, api.FParent, api.Val{N: -5}, s),
		"Drop, what isn't there": {Op: api.Drop, E: api.Elem{ID: 99}, Field: 2},
	} {
		refused(t, what, yard(), x, api.ErrArg)
		refused(t, what+", of none", nil, x, api.ErrArg)
	}
	for _, f := range wrong {
		refused(t, "Set of no field", yard(), set(2, f, api.Val{}, api.Val{}), api.ErrArg)
		refused(t, "Set of no field", yard(), set(2, f, v, v), api.ErrArg)
	}
	for f := range api.Fields { // E has a number, and nothing else
		v, _ := field(&full, f)
		x := set(8, api.FOrder, api.Val{}, api.Val{N: 5})
		_, put := field(&x.E, f)
		put(v)
		refused(t, "Set of more than a number", yard(), x, api.ErrArg)
	}
	refused(t, "Set of all that it is", yard(), api.Edit{Op: api.Set, E: full, Field: api.FOrder, Old: api.Val{N: 12}}, api.ErrArg)
}

func TestErrThere(t *testing.T) { // P12.2: ahead of ErrParent
	for _, e := range yard() {
		if e.ID == 0 {
			continue
		}
		refused(t, "as it is", yard(), add(e), api.ErrThere)
		refused(t, "another one", yard(), add(api.Elem{ID: e.ID}), api.ErrThere)
		refused(t, "in what isn't there", yard(), add(api.Elem{ID: e.ID, Parent: 97}), api.ErrThere)
	}
}

func TestErrNone(t *testing.T) { // P12.2: ahead of ErrStale, ErrParent
	for _, id := range []int{math.MinInt, -6, -4, -1, 1, 3, 9, 98, 99, math.MaxInt} {
		refused(t, "Drop", yard(), drop(api.Elem{ID: id}), api.ErrNone)
		refused(t, "Drop in what isn't there", yard(), drop(api.Elem{ID: id, Parent: 97, Name: "x"}), api.ErrNone)
		for f := range api.Fields {
			refused(t, "Set", yard(), set(id, f, api.Val{}, api.Val{}), api.ErrNone)
		}
		refused(t, "Set of what isn't so", yard(), set(id, api.FName, api.Val{S: "x"}, api.Val{S: "y"}), api.ErrNone)
		refused(t, "Set of what isn't there", yard(), move(id, 97, 96), api.ErrNone)
		refused(t, "of none", nil, drop(api.Elem{ID: id}), api.ErrNone)
		refused(t, "of none", api.Chart{}, move(id, 0, 0), api.ErrNone)
	}
}

func TestErrStale(t *testing.T) { // P12.2: ahead of ErrParent
	for f := range api.Fields {
		other := api.Val{N: 77}
		if text(f) {
			other = api.Val{S: "77"}
		}
		e := full
		_, put := field(&e, f)
		put(other)
		refused(t, "Drop of another one", yard(), drop(e), api.ErrStale)
		refused(t, "Set of what isn't so", yard(), set(7, f, other, api.Val{}), api.ErrStale)
		refused(t, "Set of what isn't so", yard(), set(7, f, api.Val{}, other), api.ErrStale)
		refused(t, "Set to what it is", yard(), set(7, f, other, other), api.ErrStale)
	}
	refused(t, "what others stand in", yard(), drop(api.Elem{ID: 2}), api.ErrStale)
	refused(t, "what stands in what isn't there", yard(), drop(api.Elem{ID: 6, Parent: 98}), api.ErrStale)
	refused(t, "into what isn't there", yard(), move(7, 2, 97), api.ErrStale)
	refused(t, "out of what isn't there", yard(), move(6, 98, 0), api.ErrStale)
	refused(t, "is Old, by its New", yard(), move(7, 2, 4), api.ErrStale)
}

func TestErrParent(t *testing.T) { // P12.2
	for _, in := range []int{math.MinInt, -4, -1, 1, 3, 9, 98, 99, math.MaxInt} {
		refused(t, "Add, in what isn't there", yard(), add(api.Elem{ID: 10, Parent: in}), api.ErrParent)
	}
	refused(t, "Add, in itself", yard(), add(api.Elem{ID: 10, Parent: 10}), api.ErrParent)
	refused(t, "Add, in itself, to none", nil, add(api.Elem{ID: 1, Parent: 1}), api.ErrParent)
	refused(t, "Add of what one stands in", yard(), add(api.Elem{ID: 99}), api.ErrParent)
	refused(t, "Add of what one stands in, in another one", yard(), add(api.Elem{ID: 98, Parent: 2}), api.ErrParent)
	refused(t, "Add of what one stands in, in that", yard(), add(api.Elem{ID: 99, Parent: 6}), api.ErrParent)
	refused(t, "Drop of what one stands in", yard(), drop(yard()[0]), api.ErrParent)
	refused(t, "Drop of what one stands in, in another one", yard(), drop(yard()[2]), api.ErrParent)
	refused(t, "Drop of what stands in itself", yard(), drop(yard()[4]), api.ErrParent)
	refused(t, "Drop of what stands in what isn't there", yard(), drop(yard()[5]), api.ErrParent)
	refused(t, "Drop of what stands in what isn't there", yard(), drop(yard()[7]), api.ErrParent)
}

func TestApply(t *testing.T) { // P12.3: one by one
	a := api.Elem{ID: 1, Kind: api.State, Name: "a"}
	b := api.Elem{ID: 2, Kind: api.State, Parent: 1, Name: "b"}
	l := []api.Edit{
		add(a), add(b), // b stands in what was just added
		set(1, api.FName, api.Val{S: "a"}, api.Val{S: "x"}),
		set(1, api.FName, api.Val{S: "x"}, api.Val{S: "y"}), // Old is what the one ahead has set
		move(2, 1, 0),
		drop(api.Elem{ID: 1, Kind: api.State, Name: "y"}), // nothing stands in it any more
		add(api.Elem{ID: 1, Parent: 2}),                   // its number is free
	}
	want := []api.Chart{
		{},
		{a},
		{a, b},
		{{ID: 1, Kind: api.State, Name: "x"}, b},
		{{ID: 1, Kind: api.State, Name: "y"}, b},
		{{ID: 1, Kind: api.State, Name: "y"}, {ID: 2, Kind: api.State, Name: "b"}},
		{{ID: 2, Kind: api.State, Name: "b"}},
		{{ID: 1, Parent: 2}, {ID: 2, Kind: api.State, Name: "b"}},
	}
	for n := range len(l) + 1 {
		d, at, e := Apply(nil, l[:n])
		if e != api.OK || at != 0 || !slices.Equal(d, want[n]) {
			t.Errorf("%d: %v, %d, %d, not %v", n, d, at, e, want[n])
		}
		if back, at, e := Apply(want[n], Invert(l[:n])); e != api.OK || at != 0 || len(back) > 0 {
			t.Errorf("%d back: %v, %d, %d", n, back, at, e)
		}
	}
	for _, none := range [][]api.Edit{nil, {}} {
		if d, at, e := Apply(yard(), none); e != api.OK || at != 0 || !slices.Equal(d, yard()) {
			t.Errorf("no edits: %v, %d, %d", d, at, e)
		}
	}
}

func TestApplyTellsTheFirstError(t *testing.T) { // P12.3: and its place
	good := []api.Edit{add(api.Elem{ID: 10}), add(api.Elem{ID: 11, Parent: 10}), drop(full), move(11, 10, 4)}
	for want, x := range map[api.Errno]api.Edit{
		api.ErrArg:    {},
		api.ErrThere:  add(api.Elem{ID: 2}),
		api.ErrNone:   drop(api.Elem{ID: 97}),
		api.ErrStale:  drop(api.Elem{ID: 5}),
		api.ErrParent: move(2, -5, 97),
	} {
		for at := range len(good) + 1 {
			l := slices.Insert(slices.Clone(good), at, x)
			l = append(l, api.Edit{Op: 9}, add(api.Elem{ID: 97, Parent: 96})) // and others behind
			if d, got, e := Apply(yard(), l); e != want || got != at || len(d) > 0 {
				t.Errorf("%d at %d: %v, %d, %d", want, at, d, got, e)
			}
		}
	}
	if d, at, e := Apply(yard(), []api.Edit{good[0], good[0]}); e != api.ErrThere || at != 1 || len(d) > 0 {
		t.Error(d, at, e)
	}
	if d, at, e := Apply(yard(), []api.Edit{good[2], good[2]}); e != api.ErrNone || at != 1 || len(d) > 0 {
		t.Error(d, at, e)
	}
}

func TestInvert(t *testing.T) { // P12.3
	v, w := api.Val{N: 3, S: "v"}, api.Val{N: 4, S: "w"}
	for _, none := range [][]api.Edit{nil, {}} {
		if l := Invert(none); len(l) > 0 {
			t.Error(l)
		}
	}
	l := []api.Edit{
		add(full),
		drop(api.Elem{ID: 3, Parent: 4}),
		set(5, api.FName, api.Val{S: "a"}, api.Val{S: "b"}),
		{Op: api.Set, E: full, Field: -3, Old: v, New: w}, // it may not be, but is inverted
		{Op: 0, E: full, Field: 2, Old: v, New: w},
		{Op: 4, E: full, Field: 2, Old: v, New: w},
		{Op: 255, Old: v},
		{},
	}
	want := []api.Edit{
		{},
		{Op: 255, New: v},
		{Op: 4, E: full, Field: 2, Old: w, New: v},
		{Op: 0, E: full, Field: 2, Old: w, New: v},
		{Op: api.Set, E: full, Field: -3, Old: w, New: v},
		set(5, api.FName, api.Val{S: "b"}, api.Val{S: "a"}),
		add(api.Elem{ID: 3, Parent: 4}),
		drop(full),
	}
	if got := Invert(l); !slices.Equal(got, want) {
		t.Errorf("%v, not %v", got, want)
	}
	if got := Invert(want); !slices.Equal(got, l) {
		t.Errorf("%v, not %v", got, l)
	}
	for n := range len(l) + 1 {
		if got := Invert(l[:n]); !slices.Equal(got, want[len(l)-n:]) {
			t.Errorf("the first %d: %v", n, got)
		}
	}
	// Add and Drop that may not be are another's all the same; what else they have stays.
	odd := []api.Edit{{Op: api.Add, E: full, Field: 2, Old: v, New: w}, {Op: api.Drop, Field: 3, Old: w}}
	if got := Invert(odd); !slices.Equal(got, []api.Edit{{Op: api.Add, Field: 3, Old: w}, {Op: api.Drop, E: full, Field: 2, Old: v, New: w}}) {
		t.Error(got)
	}
}

func TestNothingIsShared(t *testing.T) { // P12.2, P12.3, and the rule on memory
	c := append(make(api.Chart, 0, 40), yard()...) // room behind: an append would write there
	beside := c[:len(c)+1]
	l := append(make([]api.Edit, 0, 9), add(api.Elem{ID: 10}), drop(full), move(2, -5, 0))
	was := slices.Clone(l)
	var charts []api.Chart
	for _, x := range l {
		d, _ := One(c, x)
		charts = append(charts, d)
	}
	for n := range 4 {
		d, _, e := Apply(c, l[:n])
		if e != api.OK {
			t.Fatal(e)
		}
		charts = append(charts, d)
	}
	for _, d := range charts {
		if len(d) == 0 {
			t.Fatal("nothing is answered")
		}
		for i := range d {
			d[i] = api.Elem{ID: 77}
		}
		_ = append(d, full, full)
		if !slices.Equal(c, yard()) || beside[len(c)] != (api.Elem{}) {
			t.Fatal("what was handed in has changed")
		}
	}
	for n := range 4 {
		back := Invert(l[:n])
		for i := range back {
			back[i] = api.Edit{Op: 77}
		}
		_ = append(back, api.Edit{Op: 78})
		if !slices.Equal(l, was) || l[:4][3] != (api.Edit{}) {
			t.Fatal("the edits that were handed in have changed")
		}
	}
}

// model is a chart as a map: its elements by their numbers.
type model map[int]api.Elem

func modelOf(c api.Chart) model {
	m := model{}
	for _, e := range c {
		m[e.ID] = e
	}
	return m
}

func (m model) chart() api.Chart {
	var c api.Chart
	for _, id := range slices.Sorted(maps.Keys(m)) {
		c = append(c, m[id])
	}
	return c
}

// lost tells whether an element that stands in a number would stand in what isn't there.
func (m model) lost(in int) bool {
	_, there := m[in]
	return in != 0 && !there
}

// fits is the layer below's, by hand.
func fits(f int, v api.Val) bool {
	switch f {
	case 0:
		return v.S == "" && 0 <= v.N && v.N < 256
	case 1, 2, 4, 5:
		return v.S == ""
	case 3, 6, 7, 8:
		return v.N == 0
	}
	return false
}

// do is One, plainly.
func (m model) do(x api.Edit) api.Errno {
	e, there := m[x.E.ID]
	bare := x
	bare.Field, bare.Old, bare.New = 0, api.Val{}, api.Val{}
	was, put := field(&e, x.Field)
	held := false
	for _, o := range m {
		held = held || o.Parent == x.E.ID
	}
	switch {
	case x.E.ID == 0 || x.Op < 1 || x.Op > 3:
		return api.ErrArg
	case x.Op < 3 && x != bare:
		return api.ErrArg
	case x.Op == 3 && (x.E != api.Elem{ID: x.E.ID} || !fits(x.Field, x.Old) || !fits(x.Field, x.New)):
		return api.ErrArg
	case x.Op == 1 && there:
		return api.ErrThere
	case x.Op > 1 && !there:
		return api.ErrNone
	case x.Op == 2 && e != x.E || x.Op == 3 && was != x.Old:
		return api.ErrStale
	case x.Op < 3 && (held || m.lost(x.E.Parent)):
		return api.ErrParent
	case x.Op == 3 && x.Field == 1 && (m.lost(x.Old.N) || m.lost(x.New.N)):
		return api.ErrParent
	}
	switch x.Op {
	case 1:
		m[x.E.ID] = x.E
	case 2:
		delete(m, x.E.ID)
	case 3:
		put(x.New)
		m[e.ID] = e
	}
	return api.OK
}

// anyElem is an element of which many fields are empty.
func anyElem(r *rand.Rand) api.Elem {
	e := api.Elem{ID: r.Intn(12) - 2}
	for f := range api.Fields {
		if _, put := field(&e, f); r.Intn(3) == 0 {
			put(anyVal(r, f))
		}
	}
	return e
}

// anyVal is a value that a field most often takes.
func anyVal(r *rand.Rand, f int) api.Val {
	v := api.Val{N: r.Intn(12) - 2}
	if f == api.FKind && r.Intn(9) > 0 {
		v.N = []int{0, 1, 5, 254, 255}[r.Intn(5)]
	}
	if text(f) {
		v = api.Val{S: []string{"", "a", "b", "more than twelve bytes"}[r.Intn(4)]}
	}
	if r.Intn(40) == 0 {
		v = api.Val{N: r.Intn(600) - 300, S: []string{"", "x"}[r.Intn(2)]}
	}
	return v
}

// anyEdit is an edit that a chart most often lets be.
func anyEdit(r *rand.Rand, c api.Chart) api.Edit {
	e := anyElem(r)
	if len(c) > 0 && r.Intn(5) > 0 {
		e = c[r.Intn(len(c))]
	}
	x := api.Edit{Op: byte(1 + r.Intn(3)), E: e}
	if x.Op == api.Add && r.Intn(4) > 0 {
		x.E = anyElem(r)
	}
	if x.Op == api.Set {
		x.Field = r.Intn(9)
		if r.Intn(3) == 0 {
			x.Field = api.FParent
		}
		x.E = api.Elem{ID: e.ID}
		x.Old, _ = field(&e, x.Field)
		x.New = anyVal(r, x.Field)
	}
	if r.Intn(6) > 0 {
		return x
	}
	switch r.Intn(6) {
	case 0:
		x.Op = byte(r.Intn(5))
	case 1:
		x.Field = r.Intn(12) - 1
	case 2:
		x.Old = anyVal(r, x.Field)
	case 3:
		x.New = anyVal(r, r.Intn(9))
	case 4:
		_, put := field(&x.E, r.Intn(9))
		put(anyVal(r, 3*r.Intn(2)))
	case 5:
		x.E.ID = r.Intn(12) - 2
	}
	return x
}

// anyChart is a chart that rises; what its elements stand in needn't be there.
func anyChart(r *rand.Rand) api.Chart {
	m := model{}
	for range r.Intn(8) {
		e := anyElem(r)
		m[e.ID] = e
	}
	return m.chart()
}

func TestManyEdits(t *testing.T) { // P1, P2, P12.2: beside a plain model
	r := rand.New(rand.NewSource(12))
	seen := map[[2]int]int{}
	for range 20000 {
		c := anyChart(r)
		m := modelOf(c)
		for range 12 {
			x, was := anyEdit(r, c), slices.Clone(c)
			want := m.do(x)
			d, e := One(c, x)
			if e != want || e != api.OK && len(d) > 0 || e == api.OK && !slices.Equal(d, m.chart()) {
				t.Fatalf("%v, %v: %v, %d, not %v, %d", c, x, d, e, m.chart(), want)
			}
			if !slices.Equal(c, was) {
				t.Fatal("the chart has changed")
			}
			seen[[2]int{int(x.Op), int(e)}]++
			if e == api.OK {
				c = d
			}
		}
	}
	for _, x := range [][2]int{{0, 1}, {1, 0}, {1, 1}, {1, 3}, {1, 14}, {2, 0}, {2, 1}, {2, 2}, {2, 11}, {2, 14}, {3, 0}, {3, 1}, {3, 2}, {3, 11}, {3, 14}, {4, 1}} {
		if seen[x] < 100 {
			t.Errorf("of edits %d: error %d came up %d times", x[0], x[1], seen[x])
		}
	}
}

func TestTheWayBack(t *testing.T) { // P5, P12.3: whatever the chart, and the edits
	r := rand.New(rand.NewSource(123))
	var led, stopped int
	for range 20000 {
		c := anyChart(r)
		var l []api.Edit
		m, want, place := modelOf(c), api.OK, 0
		for range r.Intn(30) {
			x := anyEdit(r, m.chart())
			if e := (maps.Clone(m)).do(x); e != api.OK && r.Intn(40) > 0 { // most rows of edits are to lead on
				continue
			}
			if want == api.OK {
				want, place = m.do(x), len(l)
			}
			l = append(l, x)
		}
		d, at, e := Apply(c, l)
		if e != want || e != api.OK && (at != place || len(d) > 0) {
			t.Fatalf("%v, %v: %v, %d, %d, not %d, %d", c, l, d, at, e, place, want)
		}
		if e != api.OK {
			stopped++
			continue
		}
		if at != 0 || !slices.Equal(d, m.chart()) {
			t.Fatalf("%v, %v: %v, %d, not %v", c, l, d, at, m.chart())
		}
		if len(l) > 5 {
			led++
		}
		if back, at, e := Apply(d, Invert(l)); e != api.OK || at != 0 || !slices.Equal(back, c) {
			t.Fatalf("%v, %v, back from %v: %v, %d, %d", c, l, d, back, at, e)
		}
	}
	if led < 1000 || stopped < 1000 {
		t.Errorf("%d led on, %d were stopped", led, stopped)
	}
}
