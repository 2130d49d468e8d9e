package table

import (
	"bytes"
	"math"
	"slices"
	"strings"
	"testing"

	"ecdysis/api"
	"ecdysis/field"
	"ecdysis/kind"
)

// What the document says of each kind that is not Bytes, told once more, apart from the program.
var sizes = map[int]int{
	api.U8: 1, api.I8: 1, api.Bool: 1,
	api.U16: 2, api.I16: 2,
	api.U32: 4, api.I32: 4,
	api.U64: 8, api.I64: 8, api.F64: 8, api.Ref: 8,
}

func of(name string, kind int) api.Field { return api.Field{Name: name, Kind: kind} }

func text(name string, long int) api.Field {
	return api.Field{Name: name, Kind: api.Bytes, Long: long}
}

func number(kind int, bits uint64) api.Value { return api.Value{Kind: kind, Bits: bits} }

func words(s string) api.Value { return api.Value{Kind: api.Bytes, Text: s} }

func float(x float64) api.Value { return number(api.F64, math.Float64bits(x)) }

func from(n int) Move { return Move{From: n} }

func by(v api.Value) Move { return Move{From: -1, Default: v} }

// one is the table of one field into one other.
func one(old, new api.Field) Table {
	old.Name, new.Name = "a", "b"
	return Table{Old: []api.Field{old}, New: []api.Field{new}, Moves: []Move{from(0)}}
}

// shapes has a field of each kind, and of Bytes some lengths.
func shapes() []api.Field {
	var list []api.Field
	for k := api.U8; k < api.Bytes; k++ {
		list = append(list, of("x", k))
	}
	for _, long := range []int{1, 2, 5, 64} {
		list = append(list, text("x", long))
	}
	return list
}

// some tells values of a field, least and greatest ones among them.
func some(f api.Field) []api.Value {
	if f.Kind == api.Bytes {
		all := strings.Repeat("\x01\xff\x00z", 16)
		return []api.Value{words(strings.Repeat("\x00", f.Long)), words(all[:f.Long]), words(strings.Repeat("\xff", f.Long))}
	}
	var list []api.Value
	for _, n := range []uint64{0, 1, 2, 127, 128, 255, 256, 1<<31 - 1, 1 << 31, 1<<32 - 1, 1<<53 + 1, 1<<63 - 1, 1 << 63, 1<<64 - 1, 1<<64 - 128, 1<<64 - 1<<31,
		math.Float64bits(2.5), math.Float64bits(-2.5), math.Float64bits(1e300), math.Float64bits(math.NaN()), math.Float64bits(math.Inf(-1))} {
		if v := number(f.Kind, n); kind.Right(v, f) {
			list = append(list, v)
		}
	}
	return list
}

// casts is what chapter 5 says may be cast, told once more.
func casts(x, y api.Field) bool {
	sign := func(k int) bool { return k >= api.I8 && k <= api.I64 }
	bare := func(k int) bool { return k >= api.U8 && k <= api.U64 }
	more := sizes[y.Kind] > sizes[x.Kind]
	return x.Kind == y.Kind ||
		bare(x.Kind) && (bare(y.Kind) || sign(y.Kind)) && more ||
		x.Kind == api.Bool && (bare(y.Kind) || sign(y.Kind) && more) ||
		sign(x.Kind) && sign(y.Kind) && more ||
		(sign(x.Kind) || bare(x.Kind)) && y.Kind == api.F64 ||
		x.Kind == api.F64 && y.Kind == api.I64
}

// object is an object of these fields with these values.
func object(t *testing.T, l []api.Field, values ...api.Value) []byte {
	t.Helper()
	b := field.New(l)
	for i, v := range values {
		next, e := field.Set(b, l, l[i].Name, v)
		if e != api.OK {
			t.Fatalf("%v is no %v", v, l[i])
		}
		b = next
	}
	return b
}

// values is what an object has of each of its fields.
func values(t *testing.T, b []byte, l []api.Field) []api.Value {
	t.Helper()
	var list []api.Value
	for _, f := range l {
		v, e := field.Get(b, l, f.Name)
		if e != api.OK {
			t.Fatalf("%v of %v can not be got: %d", f, b, e)
		}
		list = append(list, v)
	}
	return list
}

// equal tells whether two tables are one as lists are told apart.
func equal(a, b Table) bool {
	return slices.Equal(a.Old, b.Old) && slices.Equal(a.New, b.New) && slices.Equal(a.Moves, b.Moves)
}

func isNone(t Table) bool { return t.Old == nil && t.New == nil && t.Moves == nil }

// clone is a table of its own, to be spoilt.
func clone(t Table) Table {
	return Table{Old: slices.Clone(t.Old), New: slices.Clone(t.New), Moves: slices.Clone(t.Moves)}
}

// mixed is a right table with moves of each sort: another order, casts, one field twice, defaults of each sort.
func mixed() Table {
	return Table{
		Old: []api.Field{of("a", api.U8), of("b", api.I32), of("c", api.F64), text("d", 5), of("e", api.Ref), of("f", api.Bool)},
		New: []api.Field{text("d", 3), of("g", api.Bool), of("e", api.Ref), of("b", api.I64), of("h", api.Ref), of("a", api.I16),
			of("a2", api.F64), of("c", api.I64), text("i", 2), of("f", api.U8), text("d2", 7), of("j", api.I8), of("c2", api.F64)},
		Moves: []Move{from(3), by(number(api.Bool, 1)), from(4), from(1), by(number(api.Ref, 0)), from(0),
			from(0), from(2), by(words("x\x00")), from(5), from(3), by(number(api.I8, 1<<64-1)), from(2)},
	}
}

// wrongs has tables each of which is wrong in one way alone.
func wrongs() []Table {
	var list []Table
	wrong := func(spoil func(t *Table)) {
		t := clone(mixed())
		spoil(&t)
		list = append(list, t)
	}
	wrong(func(t *Table) { t.Old[5].Name = "A" })
	wrong(func(t *Table) { t.Old[5].Name = "a" })
	wrong(func(t *Table) { t.Old[5].Long = 1 })
	wrong(func(t *Table) { t.Old = append(t.Old, of("z", 13)) })
	wrong(func(t *Table) { t.New[0].Name = "" })
	wrong(func(t *Table) { t.New[0].Name = "a2" })
	wrong(func(t *Table) { t.New[0].Long = 65 })
	wrong(func(t *Table) { t.Moves = t.Moves[:12] })
	wrong(func(t *Table) { t.Moves = t.Moves[1:] })
	wrong(func(t *Table) { t.Moves = nil })
	wrong(func(t *Table) { t.Moves = append(t.Moves, from(0)) })
	wrong(func(t *Table) { t.Moves = append(t.Moves, Move{From: -1}) })
	wrong(func(t *Table) { t.New = t.New[:12] })
	wrong(func(t *Table) { t.New = nil })
	wrong(func(t *Table) { t.Old = t.Old[:5] })
	wrong(func(t *Table) { t.Old = nil })
	for _, n := range []int{math.MinInt, -3, -2, 6, 7, 255, 256 + 3, 1<<32 + 3, math.MaxInt} {
		wrong(func(t *Table) { t.Moves[0].From = n })
	}
	// A field from an old one has no Default, not even the one that the field would have.
	for _, v := range []api.Value{words("abc"), words(""), number(0, 1), {Text: "a"}, number(-1, 0), number(api.U8, 0)} {
		wrong(func(t *Table) { t.Moves[0].Default = v })
	}
	// What does not cast: to text but text, to Ref but Ref.
	for _, n := range []int{1, 2, 4, 5} {
		wrong(func(t *Table) { t.Moves[0].From = n })
	}
	for _, n := range []int{0, 1, 2, 3, 5} {
		wrong(func(t *Table) { t.Moves[2].From = n })
	}
	// Defaults that are not right of their field.
	for i, vs := range map[int][]api.Value{
		1:  {{}, number(api.Bool, 2), number(api.U8, 1), words("a"), {Kind: api.Bool, Text: "a"}},
		4:  {{}, number(api.Ref, 1), number(api.Ref, 1<<63), number(api.Ref, 1<<32), number(api.U64, 0), {Kind: api.Ref, Text: "a"}},
		8:  {{}, words(""), words("x"), words("xyz"), {Kind: api.Bytes, Bits: 1, Text: "xy"}, number(api.U8, 1)},
		11: {{}, number(api.I8, 128), number(api.I8, 255), number(api.I8, 1<<64-129), number(api.U8, 1)},
	} {
		for _, v := range vs {
			wrong(func(t *Table) { t.Moves[i].Default = v })
		}
	}
	return list
}

func TestP7_1_Right(t *testing.T) {
	full := Table{}
	for i := range 16 {
		f := text(string([]byte{'a' + byte(i)}), 64)
		full.Old, full.New, full.Moves = append(full.Old, f), append(full.New, f), append(full.Moves, from(15-i))
	}
	for i, x := range []Table{
		mixed(),
		{},
		{Old: []api.Field{}, New: []api.Field{}, Moves: []Move{}},
		{Old: mixed().Old},
		{New: []api.Field{of("a", api.U8)}, Moves: []Move{by(number(api.U8, 255))}},
		full,
	} {
		if !Right(x) {
			t.Error("a right table is refused:", i)
		}
	}
	for i, x := range wrongs() {
		if Right(x) {
			t.Errorf("wrong table %d is right: %v", i, x)
		}
	}
}

func TestP7_1_RightAsksWhatCasts(t *testing.T) {
	for _, x := range shapes() {
		for _, y := range shapes() {
			if got := Right(one(x, y)); got != casts(x, y) {
				t.Errorf("Right of %v to %v is %v", x, y, got)
			}
		}
	}
}

func TestP7_1_RightAsksForDefaults(t *testing.T) {
	for _, f := range shapes() {
		for _, g := range shapes() {
			for _, v := range some(g) {
				x := Table{New: []api.Field{f}, Moves: []Move{by(v)}}
				want := f.Kind == g.Kind && f.Long == g.Long && (f.Kind != api.Ref || v.Bits == 0)
				if got := Right(x); got != want {
					t.Errorf("Right of a Default %v of %v is %v", v, f, got)
				}
			}
		}
	}
}

func TestP7_1_RightOfMovesAndNewOfOtherLengths(t *testing.T) {
	for many := range 18 {
		for moves := range 18 {
			x := Table{Old: []api.Field{of("a", api.U8)}, Moves: make([]Move, moves)}
			for i := range many {
				x.New = append(x.New, of(string([]byte{'a' + byte(i)}), api.U8))
			}
			if got := Right(x); got != (many == moves && many <= 16) {
				t.Errorf("Right of %d fields and %d moves is %v", many, moves, got)
			}
		}
	}
}

func TestP7_1_Cost(t *testing.T) {
	for _, x := range []struct {
		t    Table
		want int
	}{
		{mixed(), 9},
		{Table{}, 0},
		{Table{Old: mixed().Old}, 0},
		{Table{New: []api.Field{of("a", api.U8)}, Moves: []Move{by(number(api.U8, 0))}}, 0},
		{one(of("a", api.U8), of("a", api.F64)), 1},
		{Same(mixed().New), 13},
	} {
		if got := Cost(x.t); got != x.want {
			t.Errorf("Cost(%v) is %d, want %d", x.t, got, x.want)
		}
	}
	for i, x := range wrongs() {
		if got := Cost(x); got != 0 {
			t.Errorf("Cost of wrong table %d is %d", i, got)
		}
	}
}

func TestP7_1_Check(t *testing.T) {
	l := mixed().New
	b := field.New(l)
	if !Check(b, l) || !Check(nil, nil) || !Check([]byte{}, []api.Field{}) {
		t.Error("an object of fields is refused")
	}
	for have := range len(b) + 20 {
		if got := Check(make([]byte, have), l); got != (have == len(b)) {
			t.Errorf("Check of %d bytes, where %d are asked, is %v", have, len(b), got)
		}
		if got := Check(make([]byte, have), nil); got != (have == 0) {
			t.Errorf("Check of %d bytes and no fields is %v", have, got)
		}
	}
	for _, x := range wrongs()[:4] {
		for have := range 60 {
			if Check(make([]byte, have), x.Old) {
				t.Errorf("Check of %d bytes and wrong fields %v", have, x.Old)
			}
		}
	}
	if Check(nil, make([]api.Field, 17)) || Check(nil, []api.Field{{}}) {
		t.Error("Check of no bytes and wrong fields")
	}
}

func TestP7_1_CheckGetsEachField(t *testing.T) {
	l := []api.Field{of("a", api.Bool), of("b", api.U8), of("c", api.U32), of("d", api.Bool), of("e", api.F64), text("f", 5)}
	at, long := field.Layout(l)
	for i := range long {
		for n := range 256 {
			b := make([]byte, long)
			b[i] = byte(n)
			isBool := i == at[0] || i == at[3]
			if got := Check(b, l); got != (!isBool || n < 2) {
				t.Errorf("Check of %d at %d is %v", n, i, got)
			}
		}
	}
	all := bytes.Repeat([]byte{255}, long)
	all[at[0]], all[at[3]] = 1, 0
	if !Check(all, l) {
		t.Error("bytes of no field are asked for")
	}
}

func TestP7_2_ApplyExample(t *testing.T) {
	x := Table{Old: []api.Field{of("a", api.U8)}, New: []api.Field{of("a", api.I16), of("b", api.Bool)}, Moves: []Move{from(0), by(number(api.Bool, 1))}}
	if b, e := Apply(x, []byte{255, 0, 0, 0, 0, 0, 0, 0}); e != api.OK || !bytes.Equal(b, []byte{255, 0, 1, 0, 0, 0, 0, 0}) {
		t.Errorf("%v, %d", b, e)
	}
}

func TestP7_2_ApplyBytes(t *testing.T) {
	x := mixed()
	b := object(t, x.Old, number(api.U8, 200), number(api.I32, 1<<64-5), float(-2.9), words("v\x00\xffyz"), number(api.Ref, 0x0102030405060708), number(api.Bool, 1))
	got, e := Apply(x, b)
	if e != api.OK || len(got) != 80 {
		t.Fatalf("%v, %d", got, e)
	}
	want := []api.Value{words("v\x00\xff"), number(api.Bool, 1), number(api.Ref, 0x0102030405060708), number(api.I64, 1<<64-5), number(api.Ref, 0), number(api.I16, 200),
		float(200), number(api.I64, 1<<64-2), words("x\x00"), number(api.U8, 1), words("v\x00\xffyz\x00\x00"), number(api.I8, 1<<64-1), float(-2.9)}
	if have := values(t, got, x.New); !slices.Equal(have, want) {
		t.Errorf("Apply tells %v, want %v", have, want)
	}
}

func TestP7_2_ApplyOfOneField(t *testing.T) {
	for _, x := range shapes() {
		for _, y := range shapes() {
			if !casts(x, y) {
				continue
			}
			for _, v := range some(x) {
				w := one(x, y)
				want, _ := kind.Cast(v, x, y)
				got, e := Apply(w, object(t, w.Old, v))
				if e != api.OK || !bytes.Equal(got, object(t, w.New, want)) {
					t.Errorf("%v of %v as %v is %v, %d", v, x, y, got, e)
				}
			}
		}
	}
}

func TestP7_2_ApplyOfEachDefault(t *testing.T) {
	for _, f := range shapes() {
		for _, v := range some(f) {
			x := Table{Old: []api.Field{of("z", api.U64)}, New: []api.Field{of("y", api.U8), f}, Moves: []Move{by(number(api.U8, 9)), by(v)}}
			if f.Kind == api.Ref && v.Bits != 0 {
				continue
			}
			got, e := Apply(x, bytes.Repeat([]byte{255}, 8))
			if e != api.OK || !bytes.Equal(got, object(t, x.New, number(api.U8, 9), v)) {
				t.Errorf("a Default %v of %v is %v, %d", v, f, got, e)
			}
		}
	}
}

func TestP7_2_BytesOfNoFieldAreZero(t *testing.T) {
	l := []api.Field{of("a", api.U8), of("b", api.U32), text("c", 3)}
	b := bytes.Repeat([]byte{255}, 16)
	want := []byte{255, 0, 0, 0, 255, 255, 255, 255, 255, 255, 255, 0, 0, 0, 0, 0}
	if got, e := Apply(Same(l), b); e != api.OK || !bytes.Equal(got, want) {
		t.Errorf("Apply of Same is %v, %d", got, e)
	}
}

func TestP7_2_ApplyOfNoFields(t *testing.T) {
	l := []api.Field{of("a", api.U8)}
	if got, e := Apply(Table{}, nil); e != api.OK || len(got) != 0 {
		t.Errorf("none to none is %v, %d", got, e)
	}
	if got, e := Apply(Table{Old: l}, make([]byte, 8)); e != api.OK || len(got) != 0 {
		t.Errorf("one to none is %v, %d", got, e)
	}
	if got, e := Apply(Table{New: l, Moves: []Move{by(number(api.U8, 3))}}, nil); e != api.OK || !bytes.Equal(got, []byte{3, 0, 0, 0, 0, 0, 0, 0}) {
		t.Errorf("none to one is %v, %d", got, e)
	}
}

func TestP7_2_ApplyRefuses(t *testing.T) {
	x := mixed()
	b := field.New(x.Old)
	refuse := func(what string, x Table, b []byte) {
		if got, e := Apply(x, b); e != api.ErrTableForm || got != nil {
			t.Errorf("%s: %v, %d", what, got, e)
		}
	}
	for _, w := range wrongs() {
		refuse("a wrong table", w, field.New(w.Old))
		refuse("a wrong table", w, b)
	}
	for have := range 80 {
		if have != len(b) {
			refuse("too many bytes, or too few", x, make([]byte, have))
		}
		if have != 0 {
			refuse("bytes of no fields", Table{}, make([]byte, have))
		}
	}
	// A Bool that is none is refused, whether a move is from it or not.
	at, _ := field.Layout(x.Old)
	for n := 2; n < 256; n++ {
		wrong := bytes.Clone(b)
		wrong[at[5]] = byte(n)
		refuse("a wrong Bool", x, wrong)
		refuse("a wrong Bool", Table{Old: x.Old}, wrong)
	}
}

func TestP7_2_Same(t *testing.T) {
	for _, l := range [][]api.Field{nil, {}, mixed().Old, mixed().New} {
		x := Same(l)
		if !slices.Equal(x.Old, l) || !slices.Equal(x.New, l) || len(x.Moves) != len(l) || !Right(x) {
			t.Errorf("Same(%v) is %v", l, x)
		}
		for i, m := range x.Moves {
			if m != from(i) {
				t.Errorf("move %d of Same is %v", i, m)
			}
		}
	}
	for _, l := range [][]api.Field{{{}}, make([]api.Field, 17), {of("a", api.U8), of("a", api.U8)}, {of("A", api.U8)}, {text("a", 65)}} {
		if x := Same(l); !isNone(x) {
			t.Errorf("Same(%v) is %v", l, x)
		}
	}
}

func TestP7_2_ComposeMoves(t *testing.T) {
	// Each way a field may come: kept by both, new by a and kept by b, new by b, dropped by a, dropped by b.
	a := Table{
		Old:   []api.Field{of("a", api.U8), of("b", api.I8), text("c", 5), of("d", api.Bool), of("e", api.Ref)},
		New:   []api.Field{of("n", api.U8), text("c", 5), of("a", api.U16), of("b", api.I16), of("r", api.Ref), text("m", 2), of("f", api.F64), of("e", api.Ref)},
		Moves: []Move{by(number(api.U8, 255)), from(2), from(0), from(1), by(number(api.Ref, 0)), by(words("ab")), by(float(-7.9)), from(4)},
	}
	b := Table{
		Old: a.New,
		New: []api.Field{of("f", api.I64), of("n", api.I16), of("n2", api.F64), text("c", 7), of("a", api.I32), text("m", 4), text("m1", 1),
			of("z", api.Bool), of("r", api.Ref), of("e", api.Ref), of("y", api.Ref), of("a2", api.U16)},
		Moves: []Move{from(6), from(0), from(0), from(1), from(2), from(5), from(5),
			by(number(api.Bool, 1)), from(4), from(7), by(number(api.Ref, 0)), from(2)},
	}
	want := Table{Old: a.Old, New: b.New, Moves: []Move{by(number(api.I64, 1<<64-7)), by(number(api.I16, 255)), by(float(255)), from(2), from(0), by(words("ab\x00\x00")), by(words("a")),
		by(number(api.Bool, 1)), by(number(api.Ref, 0)), from(4), by(number(api.Ref, 0)), from(0)}}
	if got, e := Compose(a, b); e != api.OK || !equal(got, want) || !Right(got) {
		t.Errorf("Compose is %v, %d, want %v", got, e, want)
	}
}

func TestP7_2_ComposeOfEachThreeFields(t *testing.T) {
	for _, x := range shapes() {
		for _, y := range shapes() {
			for _, z := range shapes() {
				a, b := one(x, y), one(y, z)
				b.Old = a.New
				got, e := Compose(a, b)
				if !casts(x, y) || !casts(y, z) || !casts(x, z) {
					if e != api.ErrTableForm || !isNone(got) {
						t.Errorf("Compose of %v, %v, %v is %v, %d", x, y, z, got, e)
					}
					continue
				}
				if want := (Table{Old: a.Old, New: b.New, Moves: []Move{from(0)}}); e != api.OK || !equal(got, want) {
					t.Errorf("Compose of %v, %v, %v is %v, %d", x, y, z, got, e)
				}
			}
		}
	}
}

func TestP7_2_ComposeCastsDefaults(t *testing.T) {
	for _, y := range shapes() {
		for _, z := range shapes() {
			for _, v := range some(y) {
				if !casts(y, z) || y.Kind == api.Ref && v.Bits != 0 {
					continue
				}
				a := Table{New: []api.Field{y}, Moves: []Move{by(v)}}
				b := Table{Old: []api.Field{y}, New: []api.Field{z}, Moves: []Move{from(0)}}
				want, _ := kind.Cast(v, y, z)
				if got, e := Compose(a, b); e != api.OK || !equal(got, Table{New: b.New, Moves: []Move{by(want)}}) {
					t.Errorf("Compose of a Default %v of %v to %v is %v, %d", v, y, z, got, e)
				}
			}
		}
	}
}

func TestP7_2_ComposeRefuses(t *testing.T) {
	x := mixed()
	refuse := func(what string, a, b Table) {
		if got, e := Compose(a, b); e != api.ErrTableForm || !isNone(got) {
			t.Errorf("%s: %v, %d", what, got, e)
		}
	}
	for _, w := range wrongs() {
		refuse("the first is wrong", w, Same(x.New))
		refuse("the first is wrong", w, Table{Old: w.New})
		refuse("the second is wrong", Same(x.Old), w)
		refuse("the second is wrong", Table{New: w.Old}, w)
		refuse("both are wrong", w, w)
	}
	// What the first tells is to be just what the second is told: names, kinds, lengths and their order.
	for _, spoil := range []func(l []api.Field){
		func(l []api.Field) { l[1].Name = "other" },
		func(l []api.Field) { l[1].Kind = api.U8 },
		func(l []api.Field) { l[0].Long = 4 },
		func(l []api.Field) { l[2], l[4] = l[4], l[2] },
	} {
		l := slices.Clone(x.New)
		spoil(l)
		refuse("other fields between", x, Same(l))
		refuse("other fields between", x, Table{Old: l})
	}
	refuse("one field less between", x, Same(x.New[:12]))
	refuse("no fields between", x, Table{})
	refuse("no fields ahead", Table{}, x)
	refuse("one ahead of the other", Same(x.New), x)
}

func TestP7_2_ComposeRefusesOneFieldOfMany(t *testing.T) {
	a := Table{Old: []api.Field{of("a", api.U8), of("b", api.U64)}, New: []api.Field{of("a", api.U8), of("b", api.F64), of("c", api.F64)}, Moves: []Move{from(0), from(1), from(0)}}
	b := Table{Old: a.New, New: []api.Field{of("a", api.U8), of("b", api.I64)}, Moves: []Move{from(0), from(1)}}
	if got, e := Compose(a, b); e != api.ErrTableForm || !isNone(got) {
		t.Errorf("U64 to F64 to I64: %v, %d", got, e)
	}
	// U8 casts to I64 itself; a new field has nothing behind it that would be asked; nor has one that is dropped.
	b.Moves[1] = from(2)
	if got, e := Compose(a, b); e != api.OK || !slices.Equal(got.Moves, []Move{from(0), from(0)}) {
		t.Errorf("U8 to F64 to I64: %v, %d", got, e)
	}
	b.Moves[1] = from(1)
	a.Moves[1] = by(float(3.5))
	if got, e := Compose(a, b); e != api.OK || !slices.Equal(got.Moves, []Move{from(0), by(number(api.I64, 3))}) {
		t.Errorf("new to F64 to I64: %v, %d", got, e)
	}
}

func TestP7_2_ComposeOfNoFields(t *testing.T) {
	if got, e := Compose(Table{}, Table{Old: []api.Field{}, Moves: []Move{}}); e != api.OK || len(got.Old)+len(got.New)+len(got.Moves) != 0 {
		t.Errorf("%v, %d", got, e)
	}
	x := mixed()
	b := Table{New: []api.Field{of("a", api.U8)}, Moves: []Move{by(number(api.U8, 4))}}
	if got, e := Compose(Table{Old: x.Old}, b); e != api.OK || !equal(got, Table{Old: x.Old, New: b.New, Moves: b.Moves}) {
		t.Errorf("%v, %d", got, e)
	}
}

func TestP7_2_NothingIsSharedNorChanged(t *testing.T) {
	// Lists with room behind them, that belongs to whoever gave them.
	wide := func(x Table) Table {
		return Table{Old: append(make([]api.Field, 0, 20), x.Old...), New: append(make([]api.Field, 0, 20), x.New...), Moves: append(make([]Move, 0, 20), x.Moves...)}
	}
	a, b := wide(mixed()), wide(Same(mixed().New))
	spoil := func(x Table) {
		for _, l := range [][]api.Field{x.Old, x.New} {
			for i := range l[:cap(l)] {
				l[:cap(l)][i].Name = "spoilt"
			}
		}
		for i := range x.Moves[:cap(x.Moves)] {
			x.Moves[:cap(x.Moves)][i].From = 99
		}
	}
	isSpoilt := func(l []api.Field) bool {
		return slices.ContainsFunc(l, func(f api.Field) bool { return f.Name == "spoilt" })
	}
	got, _ := Compose(a, b)
	spoil(got)
	s := Same(a.Old)
	x, _ := Apply(a, field.New(a.Old))
	for i := range x[:cap(x)] {
		x[:cap(x)][i] = 255
	}
	if !equal(a, mixed()) || !equal(b, Same(mixed().New)) || isSpoilt(a.New[:20]) || isSpoilt(b.Old[:20]) {
		t.Error("what was given is changed")
	}
	got, _ = Compose(a, b)
	keep := clone(got)
	spoil(a)
	spoil(b)
	if !equal(got, keep) || !equal(s, Same(mixed().Old)) {
		t.Error("what was told hangs on what was given")
	}
	for i := range s.Old {
		s.Old[i].Name = "spoilt"
	}
	if isSpoilt(s.New) {
		t.Error("two lists of one answer are one")
	}
}

func TestP7_2_ApplyLeavesTheObject(t *testing.T) {
	x := Same(mixed().Old)
	_, long := field.Layout(x.Old)
	all := make([]byte, long+24)
	b := all[:long]
	got, e := Apply(x, b)
	for i := range got[:cap(got)] {
		got[:cap(got)][i] = 7
	}
	if e != api.OK || !bytes.Equal(all, make([]byte, long+24)) {
		t.Errorf("the object that was given is %v, %d", all, e)
	}
}

func TestP7_3_ApplyOfSameChangesNoField(t *testing.T) {
	for _, f := range shapes() {
		for _, g := range shapes() {
			f.Name, g.Name = "f", "g"
			l := []api.Field{f, g}
			for _, v := range some(f) {
				for _, w := range some(g) {
					b := object(t, l, v, w)
					if got, e := Apply(Same(l), b); e != api.OK || !bytes.Equal(got, b) {
						t.Errorf("%v is %v, %d", b, got, e)
					}
				}
			}
		}
	}
}

func TestP7_3_ApplyOfAComposedTableIsBoth(t *testing.T) {
	compared := 0
	for _, x := range shapes() {
		for _, y := range shapes() {
			for _, z := range shapes() {
				a, b := one(x, y), one(y, z)
				b.Old = a.New
				c, e := Compose(a, b)
				if e != api.OK {
					continue
				}
				isFewer := y.Kind == api.Bytes && y.Long < min(x.Long, z.Long)
				isFloat := y.Kind == api.F64 && x.Kind != api.F64 || x.Kind == api.F64 && y.Kind == api.I64 && z.Kind == api.F64
				for _, v := range some(x) {
					o := object(t, a.Old, v)
					p, _ := Apply(a, o)
					want, _ := Apply(b, p)
					got, e := Apply(c, o)
					if same := bytes.Equal(got, want); e != api.OK || !same && !isFewer && !isFloat {
						t.Errorf("%v of %v, %v, %v: %v, %d, one behind the other %v", v, x, y, z, got, e, want)
					}
					compared++
				}
			}
		}
	}
	if compared < 500 {
		t.Error("just so many were compared:", compared)
	}
}

func TestP7_3_ComposedOverFewerBytesKeepsMore(t *testing.T) {
	a, b := one(text("a", 4), text("a", 2)), one(text("a", 2), text("a", 4))
	b.Old = a.New
	c, e := Compose(a, b)
	got, _ := Apply(c, []byte("abcd\x00\x00\x00\x00"))
	if e != api.OK || string(got) != "abcd\x00\x00\x00\x00" {
		t.Errorf("%q, %d", got, e)
	}
	a, b = one(of("a", api.F64), of("a", api.I64)), one(of("a", api.I64), of("a", api.F64))
	b.Old = a.New
	c, e = Compose(a, b)
	o := object(t, a.Old, float(2.5))
	if got, _ := Apply(c, o); e != api.OK || !bytes.Equal(got, o) {
		t.Errorf("%v, %d", got, e)
	}
}

func TestP7_3_ManyComposedAreAllOfThem(t *testing.T) {
	// Three tables: whichever two are put together first, it is one and the same.
	l := [][]api.Field{
		{of("a", api.U8), of("b", api.I8)},
		{of("b", api.I16), of("a", api.U16), of("n", api.Bool)},
		{of("n", api.U8), of("a", api.I32)},
		{of("a", api.I64), of("n", api.U64), of("m", api.I8)},
	}
	moves := [][]Move{
		{from(1), from(0), by(number(api.Bool, 1))},
		{from(2), from(1)},
		{from(1), from(0), by(number(api.I8, 1<<64-128))},
	}
	var list []Table
	for i, m := range moves {
		list = append(list, Table{Old: l[i], New: l[i+1], Moves: m})
	}
	left, _ := Compose(list[0], list[1])
	left, e := Compose(left, list[2])
	right, _ := Compose(list[1], list[2])
	right, f := Compose(list[0], right)
	if e != api.OK || f != api.OK || !equal(left, right) {
		t.Errorf("%v, %d; %v, %d", left, e, right, f)
	}
	for n := range 256 {
		b := object(t, l[0], number(api.U8, uint64(n)), number(api.I8, 1<<64-3))
		got, e := Apply(left, b)
		for _, x := range list {
			b, _ = Apply(x, b)
		}
		if e != api.OK || !bytes.Equal(got, b) || !slices.Equal(values(t, got, l[3]), []api.Value{number(api.I64, uint64(n)), number(api.U64, 1), number(api.I8, 1<<64-128)}) {
			t.Errorf("%d: %v, %d, one behind the other %v", n, got, e, b)
		}
	}
}
