package change

import (
	"math"
	"slices"
	"testing"

	"ecdysis/api"
	"ecdysis/field"
	"ecdysis/kind"
	"ecdysis/table"
)

// What the document says of each kind that is not Bytes, told once more, apart from the program.
var sizes = map[int]int{
	api.U8: 1, api.I8: 1, api.Bool: 1,
	api.U16: 2, api.I16: 2,
	api.U32: 4, api.I32: 4,
	api.U64: 8, api.I64: 8, api.F64: 8, api.Ref: 8,
}

func of(name string, kind int) api.Field { return api.Field{Name: name, Kind: kind} }

func text(name string, long int) api.Field {
	return api.Field{Name: name, Kind: api.Bytes, Long: long}
}

func number(kind int, bits uint64) api.Value { return api.Value{Kind: kind, Bits: bits} }

func words(s string) api.Value { return api.Value{Kind: api.Bytes, Text: s} }

func from(n int) table.Move { return table.Move{From: n} }

func by(v api.Value) table.Move { return table.Move{From: -1, Default: v} }

func added(f api.Field, v api.Value) Change { return Change{Op: Add, To: f, Default: v} }

func dropped(name string) Change { return Change{Op: Drop, Name: name} }

func renamed(name, to string) Change { return Change{Op: Rename, Name: name, To: api.Field{Name: to}} }

func recast(name string, kind, long int) Change {
	return Change{Op: Recast, Name: name, To: api.Field{Kind: kind, Long: long}}
}

func ordered(order ...int) Change { return Change{Op: Order, Order: order} }

// shapes has a field of each kind, and of Bytes some lengths.
func shapes(name string) []api.Field {
	var list []api.Field
	for k := api.U8; k < api.Bytes; k++ {
		list = append(list, of(name, k))
	}
	for _, long := range []int{1, 2, 5, 64} {
		list = append(list, text(name, long))
	}
	return list
}

// odd has fields that may not be.
func odd(name string) []api.Field {
	return []api.Field{of(name, 0), of(name, -1), of(name, 13), of(name, math.MaxInt), of(name, math.MinInt), text(name, 0), text(name, -1), text(name, 65),
		{Name: name, Kind: api.U8, Long: 1}, {Name: name, Kind: api.Ref, Long: 8}, {Name: name, Kind: 256 + api.U8}}
}

// badNames has texts that are no names.
func badNames() []string {
	return []string{"", "A", "aB", "1", "_a", "a-", "a b", "a\x00", "\xff", "ä", "abcdefghijklmnop"}
}

// lists has lists of fields that are right: none, one, some of all kinds, as many as there may be.
func lists() [][]api.Field {
	var most, least []api.Field
	for i := range 16 {
		name := string([]byte{'a' + byte(i)})
		most = append(most, text(name, 64))
		least = append(least, of(name, 1+i%11))
	}
	return [][]api.Field{
		nil, {}, {of("a", api.U8)}, {of("a", api.Ref), text("b", 3)},
		{of("a", api.U8), of("b", api.I32), of("c", api.F64), text("d", 5), of("e", api.Ref), of("f", api.Bool), of("g", api.U64)},
		most[:15], most, least[:15], least,
	}
}

// wrongLists has lists of fields that are not right.
func wrongLists() [][]api.Field {
	many := append(slices.Clone(lists()[6]), of("z", api.U8))
	out := [][]api.Field{{of("a", api.U8), of("a", api.U8)}, {of("a", api.U8), of("b", api.U8), of("a", api.Ref)}, {{}}, make([]api.Field, 17), many}
	for _, f := range odd("a") {
		out = append(out, []api.Field{f}, []api.Field{of("b", api.U8), f})
	}
	for _, name := range badNames() {
		out = append(out, []api.Field{of(name, api.U8)}, []api.Field{of("b", api.U8), of(name, api.U8)})
	}
	return out
}

// changes has changes of each Op, right and wrong ones, for lists whose fields are named a, b, c and on.
func changes() []Change {
	out := []Change{{}, {Op: -1}, {Op: 6}, {Op: 256 + Drop, Name: "a"}, {Op: math.MinInt, Name: "a"}, {Op: math.MaxInt, Name: "a"}}
	values := []api.Value{{}, words(""), words("x"), words("xy"), words("\x00\xffcde"), {Kind: api.Bytes, Bits: 1, Text: "x"}, {Kind: api.U8, Text: "x"}}
	for k := range 14 {
		for _, n := range []uint64{0, 1, 255, 256, 1<<64 - 1} {
			values = append(values, number(k, n))
		}
	}
	for _, f := range append(shapes("z"), odd("z")...) {
		for _, v := range values {
			out = append(out, added(f, v))
		}
		for _, name := range append(badNames(), "a", "p", "y") {
			out = append(out, added(api.Field{Name: name, Kind: f.Kind, Long: f.Long}, kind.Zero(f)))
		}
	}
	for _, name := range append(badNames(), "a", "b", "g", "z", "zz") {
		out = append(out, dropped(name), renamed(name, "z"), renamed(name, "a"), renamed(name, "b"), renamed(name, name))
		for _, to := range badNames() {
			out = append(out, renamed(name, to))
		}
	}
	for _, name := range []string{"a", "b", "c", "d", "e", "f", "g", "p", "z", ""} {
		for _, f := range append(shapes(""), odd("")...) {
			out = append(out, recast(name, f.Kind, f.Long))
		}
	}
	return append(out, orders()...)
}

// orders has orders of some lengths, right and wrong ones.
func orders() []Change {
	var out []Change
	for n := range 18 {
		rising := make([]int, n)
		for i := range rising {
			rising[i] = i
		}
		turned := slices.Clone(rising)
		slices.Reverse(turned)
		out = append(out, ordered(rising...), ordered(turned...))
		for i := range n {
			for _, wrong := range []int{math.MinInt, -1, 0, n - 1, n, n + 1, 1<<32 + i, math.MaxInt} {
				other := slices.Clone(turned)
				other[i] = wrong
				out = append(out, ordered(other...))
			}
		}
	}
	return append(out, ordered(0, 1), ordered(1, 0), ordered(0, 0), ordered(-1, 2), ordered(2, 0, 1, 6, 5, 4, 3), ordered(0, 0, 1, 2, 3, 4, 5))
}

// casts is what chapter 5 says may be cast, told once more.
func casts(x, y api.Field) bool {
	sign := func(k int) bool { return k >= api.I8 && k <= api.I64 }
	bare := func(k int) bool { return k >= api.U8 && k <= api.U64 }
	more := sizes[y.Kind] > sizes[x.Kind]
	return x.Kind == y.Kind ||
		bare(x.Kind) && (bare(y.Kind) || sign(y.Kind)) && more ||
		x.Kind == api.Bool && (bare(y.Kind) || sign(y.Kind) && more) ||
		sign(x.Kind) && sign(y.Kind) && more ||
		(sign(x.Kind) || bare(x.Kind)) && y.Kind == api.F64 ||
		x.Kind == api.F64 && y.Kind == api.I64
}

// made is what the chapter says of a change of fields that are right, told once more, field by field.
func made(l []api.Field, c Change) ([]api.Field, []table.Move, api.Errno) {
	var new []api.Field
	var moves []table.Move
	there, wrong := false, false
	put := func(f api.Field, m table.Move) { new, moves = append(new, f), append(moves, m) }
	for i, f := range l {
		isNamed := f.Name == c.Name
		there = there || isNamed
		switch {
		case c.Op == Order:
		case !isNamed || c.Op == Add:
			put(f, from(i))
		case c.Op == Rename:
			put(api.Field{Name: c.To.Name, Kind: f.Kind, Long: f.Long}, from(i))
		case c.Op == Recast:
			put(api.Field{Name: f.Name, Kind: c.To.Kind, Long: c.To.Long}, from(i))
			wrong = wrong || !casts(f, c.To)
		}
	}
	switch c.Op {
	case Add:
		put(c.To, by(c.Default))
		wrong = !kind.Right(c.Default, c.To) || c.To.Kind == api.Ref && c.Default.Bits != 0
	case Order:
		for _, i := range c.Order {
			if i >= 0 && i < len(l) {
				put(l[i], from(i))
			}
		}
		// A number twice is a name twice, and so is not right.
		wrong = len(new) != len(l) || len(c.Order) != len(l)
	case Drop, Rename, Recast:
		if !there {
			return nil, nil, api.ErrFieldNone
		}
	default:
		wrong = true
	}
	if wrong || !field.Right(new) {
		return nil, nil, api.ErrChangeForm
	}
	return new, moves, api.OK
}

// isMade tells whether a table is the one of these fields and moves.
func isMade(t table.Table, old, new []api.Field, moves []table.Move) bool {
	return slices.Equal(t.Old, old) && slices.Equal(t.New, new) && slices.Equal(t.Moves, moves)
}

func isNone(t table.Table) bool { return t.Old == nil && t.New == nil && t.Moves == nil }

func clone(t table.Table) table.Table {
	return table.Table{Old: slices.Clone(t.Old), New: slices.Clone(t.New), Moves: slices.Clone(t.Moves)}
}

func TestP8_1_Examples(t *testing.T) {
	l := []api.Field{of("a", api.U8)}
	if x, e := Make(l, recast("a", api.U16, 0)); e != api.OK || !isMade(x, l, []api.Field{of("a", api.U16)}, []table.Move{from(0)}) {
		t.Errorf("U8 to U16: %v, %d", x, e)
	}
	if x, e := Make(l, recast("a", api.I8, 0)); e != api.ErrChangeForm || !isNone(x) {
		t.Errorf("U8 to I8: %v, %d", x, e)
	}
}

func TestP8_1_EachOp(t *testing.T) {
	l := []api.Field{of("a", api.U8), text("b", 5), of("c", api.Ref)}
	for i, x := range []struct {
		c     Change
		new   []api.Field
		moves []table.Move
	}{
		{added(of("d", api.I8), number(api.I8, 1<<64-128)), []api.Field{l[0], l[1], l[2], of("d", api.I8)}, []table.Move{from(0), from(1), from(2), by(number(api.I8, 1<<64-128))}},
		{added(of("d", api.Ref), number(api.Ref, 0)), []api.Field{l[0], l[1], l[2], of("d", api.Ref)}, []table.Move{from(0), from(1), from(2), by(number(api.Ref, 0))}},
		{dropped("a"), []api.Field{l[1], l[2]}, []table.Move{from(1), from(2)}},
		{dropped("b"), []api.Field{l[0], l[2]}, []table.Move{from(0), from(2)}},
		{dropped("c"), []api.Field{l[0], l[1]}, []table.Move{from(0), from(1)}},
		{renamed("b", "d"), []api.Field{l[0], text("d", 5), l[2]}, []table.Move{from(0), from(1), from(2)}},
		{renamed("b", "b"), l, []table.Move{from(0), from(1), from(2)}},
		{recast("b", api.Bytes, 2), []api.Field{l[0], text("b", 2), l[2]}, []table.Move{from(0), from(1), from(2)}},
		{recast("b", api.Bytes, 64), []api.Field{l[0], text("b", 64), l[2]}, []table.Move{from(0), from(1), from(2)}},
		{recast("c", api.Ref, 0), l, []table.Move{from(0), from(1), from(2)}},
		{ordered(2, 0, 1), []api.Field{l[2], l[0], l[1]}, []table.Move{from(2), from(0), from(1)}},
		{ordered(0, 1, 2), l, []table.Move{from(0), from(1), from(2)}},
	} {
		if got, e := Make(l, x.c); e != api.OK || !isMade(got, l, x.new, x.moves) {
			t.Errorf("change %d makes %v, %d", i, got, e)
		}
	}
}

func TestP8_1_EachChangeOfEachList(t *testing.T) {
	cs := changes()
	for _, l := range lists() {
		count := map[api.Errno]int{}
		for _, c := range cs {
			new, moves, want := made(l, c)
			got, e := Make(l, c)
			if e != want || e == api.OK && !isMade(got, l, new, moves) || e != api.OK && !isNone(got) {
				t.Errorf("Make(%v, %v) is %v, %d; want %v, %v, %d", l, c, got, e, new, moves, want)
			}
			count[want]++
		}
		if len(l) > 0 && (count[api.OK] == 0 || count[api.ErrChangeForm] == 0 || count[api.ErrFieldNone] == 0) {
			t.Errorf("not all answers are asked of %v: %v", l, count)
		}
	}
}

func TestP8_1_EachCast(t *testing.T) {
	for _, x := range shapes("b") {
		for _, y := range shapes("b") {
			l := []api.Field{of("a", api.U8), x, of("c", api.Bool)}
			got, e := Make(l, recast("b", y.Kind, y.Long))
			if !casts(x, y) {
				if e != api.ErrChangeForm || !isNone(got) {
					t.Errorf("%v to %v is %v, %d", x, y, got, e)
				}
				continue
			}
			if e != api.OK || !isMade(got, l, []api.Field{l[0], y, l[2]}, []table.Move{from(0), from(1), from(2)}) {
				t.Errorf("%v to %v is %v, %d", x, y, got, e)
			}
		}
	}
}

func TestP8_1_WrongFieldsAreToldFirst(t *testing.T) {
	for _, l := range wrongLists() {
		for _, c := range []Change{{}, {Op: 6}, dropped("a"), dropped("x"), renamed("a", "x"), recast("a", api.U16, 0), ordered(), ordered(0), ordered(1, 0), ordered(3, 3),
			added(of("x", api.U8), number(api.U8, 1)), added(of("x", api.U8), api.Value{})} {
			if x, e := Make(l, c); e != api.ErrFieldForm || !isNone(x) {
				t.Errorf("Make(%v, %v) is %v, %d", l, c, x, e)
			}
			if x, e := Apply(l, c); e != api.ErrFieldForm || x != nil {
				t.Errorf("Apply(%v, %v) is %v, %d", l, c, x, e)
			}
			if x, e := All(l, []Change{c}); e != api.ErrFieldForm || !isNone(x) {
				t.Errorf("All(%v, %v) is %v, %d", l, c, x, e)
			}
		}
	}
}

func TestP8_1_NoSuchFieldIsToldFirst(t *testing.T) {
	for _, l := range lists() {
		for _, c := range []Change{dropped("z"), renamed("z", "A"), renamed("z", "a"), recast("z", 99, 99), recast("", api.U8, 0), {Op: Drop}, {Op: Rename}, {Op: Recast}} {
			if x, e := Make(l, c); e != api.ErrFieldNone || !isNone(x) {
				t.Errorf("Make(%v, %v) is %v, %d", l, c, x, e)
			}
		}
	}
}

func TestP8_1_NoMoreThanMaxFields(t *testing.T) {
	var l []api.Field
	for i := range 16 {
		c := added(of(string([]byte{'a' + byte(i)}), api.U8), number(api.U8, 7))
		next, e := Apply(l, c)
		if e != api.OK || len(next) != i+1 {
			t.Fatalf("field %d: %v, %d", i, next, e)
		}
		l = next
	}
	if x, e := Make(l, added(of("z", api.U8), number(api.U8, 7))); e != api.ErrChangeForm || !isNone(x) {
		t.Errorf("field 17: %v, %d", x, e)
	}
}

func TestP8_1_WhatIsOfAnotherOpDoesNotCount(t *testing.T) {
	l := []api.Field{of("a", api.U8), text("b", 3)}
	full := Change{Name: "b", To: text("c", 2), Default: words("xy"), Order: []int{1, 0}}
	for op, spoils := range map[int][]func(c *Change){
		Add:    {func(c *Change) { c.Name = "none" }, func(c *Change) { c.Name = "a" }, func(c *Change) { c.Name = "" }, func(c *Change) { c.Order = nil }, func(c *Change) { c.Order = []int{9, 9, 9} }},
		Drop:   {func(c *Change) { c.To = api.Field{} }, func(c *Change) { c.To = of("A", 99) }, func(c *Change) { c.To = l[0] }, func(c *Change) { c.Default = number(99, 9) }, func(c *Change) { c.Order = nil }},
		Rename: {func(c *Change) { c.To.Kind, c.To.Long = 99, 99 }, func(c *Change) { c.To.Kind = api.U8 }, func(c *Change) { c.Default = api.Value{} }, func(c *Change) { c.Order = []int{0} }},
		Recast: {func(c *Change) { c.To.Name = "" }, func(c *Change) { c.To.Name = "a" }, func(c *Change) { c.Default = number(99, 9) }, func(c *Change) { c.Order = nil }},
		Order:  {func(c *Change) { c.Name = "none" }, func(c *Change) { c.To = of("A", 99) }, func(c *Change) { c.To = l[0] }, func(c *Change) { c.Default = number(99, 9) }},
	} {
		want := full
		want.Op = op
		x, e := Make(l, want)
		if e != api.OK {
			t.Fatalf("Op %d: %d", op, e)
		}
		for i, spoil := range spoils {
			c := want
			spoil(&c)
			if y, e := Make(l, c); e != api.OK || !isMade(y, x.Old, x.New, x.Moves) {
				t.Errorf("Op %d, %d: %v, %d", op, i, y, e)
			}
		}
	}
}

func TestP8_2_ApplyTellsTheNewFields(t *testing.T) {
	cs := changes()
	for _, l := range lists() {
		for _, c := range cs {
			new, _, want := made(l, c)
			if got, e := Apply(l, c); e != want || !slices.Equal(got, new) || e != api.OK && got != nil {
				t.Errorf("Apply(%v, %v) is %v, %d; want %v, %d", l, c, got, e, new, want)
			}
		}
	}
}

func TestP8_2_AllOfMany(t *testing.T) {
	l := []api.Field{of("a", api.U8), of("b", api.I32), text("c", 4), of("d", api.Ref)}
	x, e := All(l, []Change{
		recast("a", api.U16, 0), added(of("e", api.U8), number(api.U8, 200)), renamed("a", "x"), recast("e", api.I16, 0), ordered(4, 3, 2, 1, 0),
		dropped("b"), added(of("b", api.Bool), number(api.Bool, 1)), recast("x", api.F64, 0), renamed("b", "a"), recast("e", api.F64, 0), recast("x", api.I64, 0), recast("c", api.Bytes, 2), recast("c", api.Bytes, 6),
	})
	new := []api.Field{of("e", api.F64), of("d", api.Ref), text("c", 6), of("x", api.I64), of("a", api.Bool)}
	moves := []table.Move{by(number(api.F64, math.Float64bits(200))), from(3), from(2), from(0), by(number(api.Bool, 1))}
	if e != api.OK || !isMade(x, l, new, moves) {
		t.Errorf("%v, %d", x, e)
	}
}

func TestP8_2_AllOfNone(t *testing.T) {
	for _, l := range lists() {
		for _, cs := range [][]Change{nil, {}} {
			x, e := All(l, cs)
			y := table.Same(l)
			if e != api.OK || !isMade(x, y.Old, y.New, y.Moves) {
				t.Errorf("All(%v) is %v, %d", l, x, e)
			}
		}
	}
	// Same of fields that are not right is a zero table, and there is no change that could tell an error.
	for _, l := range wrongLists() {
		if x, e := All(l, nil); e != api.OK || !isNone(x) {
			t.Errorf("All(%v) is %v, %d", l, x, e)
		}
	}
}

func TestP8_2_AllOfOneIsMake(t *testing.T) {
	for _, l := range lists() {
		for _, c := range changes() {
			x, want := Make(l, c)
			if y, e := All(l, []Change{c}); e != want || !isMade(y, x.Old, x.New, x.Moves) {
				t.Errorf("All(%v, %v) is %v, %d; want %v, %d", l, c, y, e, x, want)
			}
		}
	}
}

// some has changes that go through one behind the other, and some that do not.
func some() []Change {
	return []Change{
		added(of("z", api.U8), number(api.U8, 255)), added(of("y", api.Ref), number(api.Ref, 0)), added(text("w", 3), words("abc")), added(of("a", api.F64), number(api.F64, math.Float64bits(-7.5))),
		dropped("a"), dropped("z"), dropped("b"), renamed("a", "z"), renamed("z", "a"), renamed("a", "c"), recast("a", api.U32, 0), recast("a", api.F64, 0), recast("a", api.I64, 0),
		recast("z", api.F64, 0), recast("z", api.I64, 0), recast("b", api.Bytes, 1), recast("b", api.Bytes, 5), ordered(1, 0), ordered(2, 0, 1), ordered(0), ordered(), {Op: 7},
	}
}

func TestP8_2_AllOfEachThree(t *testing.T) {
	ok, apart := 0, 0
	for _, l := range [][]api.Field{nil, {of("a", api.U16)}, {of("a", api.U64), text("b", 3)}, {text("b", 64), of("a", api.F64)}} {
		for _, c := range some() {
			for _, d := range some() {
				for _, f := range some() {
					cs := []Change{c, d, f}
					want, fault := composed(l, cs)
					got, e := All(l, cs)
					if e != fault || !isMade(got, want.Old, want.New, want.Moves) || e != api.OK && !isNone(got) {
						t.Errorf("All(%v, %v) is %v, %d; want %v, %d", l, cs, got, e, want, fault)
					}
					if e == api.OK {
						ok++
					} else if e == api.ErrTableForm {
						apart++
					}
				}
			}
		}
	}
	if ok < 100 || apart < 10 {
		t.Errorf("%d right ones, %d that can not be composed", ok, apart)
	}
}

// composed is what all changes make, told once more, move by move: where each field is from, and what it was cast to on the way.
func composed(l []api.Field, cs []Change) (table.Table, api.Errno) {
	t := table.Same(l)
	for _, c := range cs {
		new, moves, e := made(t.New, c)
		if e != api.OK {
			return table.Table{}, e
		}
		for i, m := range moves {
			if m.From == -1 {
				continue
			}
			first := t.Moves[m.From]
			if first.From == -1 {
				first.Default, _ = kind.Cast(first.Default, t.New[m.From], new[i])
			} else if !casts(l[first.From], new[i]) {
				return table.Table{}, api.ErrTableForm
			}
			moves[i] = first
		}
		t.New, t.Moves = new, moves
	}
	return t, api.OK
}

func TestP8_2_AllTellsTheFirstError(t *testing.T) {
	l := []api.Field{of("a", api.U64), of("b", api.U8)}
	apart := []Change{recast("a", api.F64, 0), recast("a", api.I64, 0)}
	none, wrong := dropped("x"), recast("b", api.I8, 0)
	for i, x := range []struct {
		cs   []Change
		want api.Errno
	}{
		{apart, api.ErrTableForm},
		{[]Change{apart[0], apart[1], none}, api.ErrTableForm},
		{[]Change{apart[0], none, apart[1]}, api.ErrFieldNone},
		{[]Change{apart[0], wrong, apart[1]}, api.ErrChangeForm},
		{[]Change{none, wrong}, api.ErrFieldNone},
		{[]Change{wrong, none}, api.ErrChangeForm},
		{[]Change{dropped("a"), dropped("a")}, api.ErrFieldNone},
		{[]Change{dropped("a"), dropped("b"), dropped("a")}, api.ErrFieldNone},
		{[]Change{dropped("b"), {Op: 9}}, api.ErrChangeForm},
		// What can not be composed can not, whatever is dropped behind it.
		{[]Change{apart[0], apart[1], dropped("a")}, api.ErrTableForm},
	} {
		if got, e := All(l, x.cs); e != x.want || !isNone(got) {
			t.Errorf("changes %d: %v, %d", i, got, e)
		}
	}
}

func TestP8_2_AllIsBothOneBehindTheOther(t *testing.T) {
	l := []api.Field{of("a", api.U8), of("b", api.I16), text("c", 3), of("d", api.Ref)}
	cs := []Change{recast("a", api.U16, 0), added(of("e", api.Bool), number(api.Bool, 1)), ordered(4, 0, 1, 2, 3), recast("a", api.I32, 0), renamed("b", "x"),
		recast("x", api.I64, 0), dropped("c"), recast("e", api.U8, 0), added(text("c", 2), words("no")), ordered(4, 3, 2, 1, 0)}
	b := field.New(l)
	for name, v := range map[string]api.Value{"a": number(api.U8, 254), "b": number(api.I16, 1<<64-300), "c": words("xyz"), "d": number(api.Ref, 77)} {
		b, _ = field.Set(b, l, name, v)
	}
	step, fields := b, l
	for i, c := range cs {
		x, e := Make(fields, c)
		if e != api.OK {
			t.Fatal(e)
		}
		step, _ = table.Apply(x, step)
		fields = x.New
		whole, e := All(l, cs[:i+1])
		if e != api.OK {
			t.Fatal(e)
		}
		if got, e := table.Apply(whole, b); e != api.OK || !slices.Equal(got, step) || !slices.Equal(whole.New, fields) {
			t.Errorf("behind change %d: %v, %d, want %v", i, got, e, step)
		}
	}
}

func TestP8_2_NothingIsSharedNorChanged(t *testing.T) {
	// A list with room behind it, that belongs to whoever gave it.
	give := func() []api.Field {
		return append(make([]api.Field, 0, 20), of("a", api.U8), text("b", 3), of("c", api.Ref))
	}
	spoil := func(l []api.Field) {
		for i := range l[:cap(l)] {
			l[:cap(l)][i].Name = "spoilt"
		}
	}
	spoilMoves := func(l []table.Move) {
		for i := range l[:cap(l)] {
			l[:cap(l)][i].From = 99
		}
	}
	isSpoilt := func(l []api.Field) bool {
		return slices.ContainsFunc(l, func(f api.Field) bool { return f.Name == "spoilt" })
	}
	for _, cs := range [][]Change{{added(of("d", api.U8), number(api.U8, 1))}, {dropped("b")}, {renamed("b", "x")}, {recast("b", api.Bytes, 2)}, {ordered(2, 0, 1)}, {ordered(0, 1, 2)}, {}} {
		l, keep := give(), slices.Clone(cs)
		for i := range keep {
			keep[i].Order = slices.Clone(keep[i].Order)
		}
		answers := func() []table.Table {
			x, _ := All(l, cs)
			list := []table.Table{x}
			for _, c := range cs {
				y, _ := Make(l, c)
				z, _ := Apply(l, c)
				list = append(list, y, table.Table{New: z})
			}
			return list
		}
		for _, x := range answers() {
			spoil(x.Old)
			if isSpoilt(x.New) {
				t.Errorf("two lists of one answer to %v are one", cs)
			}
			spoil(x.New)
			spoilMoves(x.Moves)
		}
		if !slices.Equal(l[:20], give()[:20]) || !slices.EqualFunc(cs, keep, func(a, b Change) bool {
			return a.Op == b.Op && a.Name == b.Name && a.To == b.To && a.Default == b.Default && slices.Equal(a.Order, b.Order)
		}) {
			t.Errorf("what was given is changed: %v, %v", l[:20], cs)
		}
		xs := answers()
		var want []table.Table
		for _, x := range xs {
			want = append(want, clone(x))
		}
		spoil(l)
		for _, c := range cs {
			for i := range c.Order {
				c.Order[i] = 99
			}
		}
		for i, x := range xs {
			if !isMade(x, want[i].Old, want[i].New, want[i].Moves) {
				t.Errorf("what was told of %v hangs on what was given", cs)
			}
		}
	}
}

func TestP8_3_TablesAreRight(t *testing.T) {
	for _, l := range lists() {
		for _, c := range changes() {
			x, e := Make(l, c)
			if e == api.OK && (!table.Right(x) || !slices.Equal(x.Old, l)) {
				t.Errorf("Make(%v, %v) is %v", l, c, x)
			}
		}
	}
}

func TestP8_3_FieldsThatNobodyNamesKeepTheirValues(t *testing.T) {
	l := lists()[4]
	b := field.New(l)
	for i, v := range []api.Value{number(api.U8, 200), number(api.I32, 1<<64-5), number(api.F64, math.Float64bits(-2.5)), words("v\x00\xffyz"), number(api.Ref, 0x0102030405060708), number(api.Bool, 1), number(api.U64, 1<<64-3)} {
		b, _ = field.Set(b, l, l[i].Name, v)
	}
	many := 0
	for _, c := range changes() {
		x, e := Make(l, c)
		if e != api.OK {
			continue
		}
		many++
		got, e := table.Apply(x, b)
		if e != api.OK {
			t.Fatalf("%v of %v: %d", x, b, e)
		}
		isNamed := c.Op == Drop || c.Op == Rename || c.Op == Recast
		for _, f := range l {
			if isNamed && f.Name == c.Name {
				continue
			}
			want, _ := field.Get(b, l, f.Name)
			if v, e := field.Get(got, x.New, f.Name); e != api.OK || v != want {
				t.Errorf("behind %v %v is %v, %d; it was %v", c, f, v, e, want)
			}
		}
	}
	if many < 30 {
		t.Errorf("only %d changes could be made", many)
	}
}

func TestP8_3_TheNamedFieldIsWhatTheChangeSays(t *testing.T) {
	l := []api.Field{of("a", api.U8), of("b", api.Bool)}
	b := []byte{255, 1, 0, 0, 0, 0, 0, 0}
	for i, x := range []struct {
		c    Change
		name string
		want api.Value
		e    api.Errno
	}{
		{added(of("c", api.I16), number(api.I16, 1<<64-2)), "c", number(api.I16, 1<<64-2), api.OK},
		{dropped("a"), "a", api.Value{}, api.ErrFieldNone},
		{renamed("a", "c"), "c", number(api.U8, 255), api.OK},
		{renamed("a", "c"), "a", api.Value{}, api.ErrFieldNone},
		{recast("a", api.I16, 0), "a", number(api.I16, 255), api.OK},
		{recast("b", api.U8, 0), "b", number(api.U8, 1), api.OK},
		{ordered(1, 0), "a", number(api.U8, 255), api.OK},
	} {
		y, e := Make(l, x.c)
		if e != api.OK {
			t.Fatal(e)
		}
		got, _ := table.Apply(y, b)
		if v, e := field.Get(got, y.New, x.name); v != x.want || e != x.e {
			t.Errorf("change %d: %s is %v, %d", i, x.name, v, e)
		}
	}
}
