package schema

import (
	"bytes"
	"maps"
	"math"
	"slices"
	"testing"

	"ecdysis/api"
	"ecdysis/change"
	"ecdysis/field"
	"ecdysis/kind"
	"ecdysis/table"
)

func of(name string, kind int) api.Field { return api.Field{Name: name, Kind: kind} }

func text(name string, long int) api.Field {
	return api.Field{Name: name, Kind: api.Bytes, Long: long}
}

func number(kind int, bits uint64) api.Value { return api.Value{Kind: kind, Bits: bits} }

func words(s string) api.Value { return api.Value{Kind: api.Bytes, Text: s} }

func added(f api.Field, v api.Value) change.Change {
	return change.Change{Op: change.Add, To: f, Default: v}
}

func dropped(name string) change.Change { return change.Change{Op: change.Drop, Name: name} }

func renamed(name, to string) change.Change {
	return change.Change{Op: change.Rename, Name: name, To: api.Field{Name: to}}
}

func recast(name string, kind, long int) change.Change {
	return change.Change{Op: change.Recast, Name: name, To: api.Field{Kind: kind, Long: long}}
}

func ordered(order ...int) change.Change { return change.Change{Op: change.Order, Order: order} }

// badNames has texts that are no names.
func badNames() []string {
	return []string{"", "A", "aB", "1", "_a", "a-", "a b", "a\x00", "\xff", "ä", "abcdefghijklmnop"}
}

// goodNames has names of the types of tests, as many as there may be, not rising.
func goodNames() []string {
	return []string{"m", "a", "z", "abcdefghijklmno", "a0", "a_", "aa", "b", "zz", "c", "d", "e", "f", "g", "h", "i"}
}

// lists has lists of fields that are right: none, one, some of all kinds, as many as there may be.
func lists() [][]api.Field {
	var most, least []api.Field
	for i := range 16 {
		name := string([]byte{'a' + byte(i)})
		most = append(most, text(name+"bcdefghijklmno", 64))
		least = append(least, of(name, 1+i%11))
	}
	return [][]api.Field{
		nil, {}, {of("a", api.U8)}, {of("a", api.Ref), text("b", 3)},
		{of("a", api.U8), of("b", api.I32), of("c", api.F64), text("d", 5), of("e", api.Ref), of("f", api.Bool), of("g", api.U64)},
		most, least,
	}
}

// wrongLists has lists of fields that are not right.
func wrongLists() [][]api.Field {
	many := append(slices.Clone(lists()[6]), of("z", api.U8))
	out := [][]api.Field{{of("a", api.U8), of("a", api.U8)}, {of("a", api.U8), of("b", api.U8), of("a", api.Ref)}, {{}}, make([]api.Field, 17), many,
		{of("a", 0)}, {of("a", 13)}, {of("a", -1)}, {text("a", 0)}, {text("a", 65)}, {{Name: "a", Kind: api.U8, Long: 1}}}
	for _, name := range badNames() {
		out = append(out, []api.Field{of(name, api.U8)}, []api.Field{of("b", api.U8), of(name, api.U8)})
	}
	return out
}

// told is a type as the chapter has it, told once more: the oldest version's number, of each its fields, and of each but the oldest its table.
type told struct {
	oldest int
	fields [][]api.Field
	tables []table.Table
}

func (x *told) newest() int { return x.oldest + len(x.fields) - 1 }

// world is a catalogue as the chapter has it.
type world map[string]*told

func (w world) define(name string, l []api.Field) api.Errno {
	switch {
	case !field.Name(name), !field.Right(l):
		return api.ErrFieldForm
	case w[name] != nil, len(w) >= 16:
		return api.ErrSchemaThere
	}
	w[name] = &told{oldest: 1, fields: [][]api.Field{slices.Clone(l)}}
	return api.OK
}

func (w world) change(name string, cs []change.Change) (int, api.Errno) {
	x := w[name]
	if x == nil {
		return 0, api.ErrSchemaNone
	}
	if x.newest() == 64 {
		return 0, api.ErrSchemaThere
	}
	t, e := change.All(x.fields[len(x.fields)-1], cs)
	if e != api.OK {
		return 0, e
	}
	x.fields, x.tables = append(x.fields, t.New), append(x.tables, t)
	return x.newest(), api.OK
}

func (w world) upgrade(name string, v int, b []byte) ([]byte, api.Errno) {
	x := w[name]
	if x == nil || v < x.oldest || v > x.newest() {
		return nil, api.ErrSchemaNone
	}
	if v == x.newest() {
		if !table.Check(b, x.fields[v-x.oldest]) {
			return nil, api.ErrTableForm
		}
		return b, api.OK
	}
	for ; v < x.newest(); v++ {
		var e api.Errno
		if b, e = table.Apply(x.tables[v-x.oldest], b); e != api.OK {
			return nil, e
		}
	}
	return b, api.OK
}

func (w world) retire(name string, live []int) (int, api.Errno) {
	x := w[name]
	if x == nil {
		return 0, api.ErrSchemaNone
	}
	for v := x.oldest; v < x.newest(); v++ {
		if slices.Contains(live, v) {
			return 0, api.ErrSchemaUse
		}
	}
	n := len(x.fields) - 1
	w[name] = &told{oldest: x.newest(), fields: x.fields[n:]}
	return n, api.OK
}

// encoded is the bytes of a world.
func (w world) encoded() []byte {
	out := []byte{byte(len(w))}
	for _, name := range slices.Sorted(maps.Keys(w)) {
		x := w[name]
		out = append(append(out, byte(len(name))), name...)
		out = append(out, byte(x.oldest), byte(x.newest()))
		for i, l := range x.fields {
			own := []byte{byte(len(l))}
			for _, f := range l {
				own = append(append(own, byte(len(f.Name))), f.Name...)
				own = append(own, byte(f.Kind), byte(f.Long))
			}
			out = append(out, byte(len(own)), byte(len(own)>>8))
			out = append(out, own...)
			for j := 0; i > 0 && j < len(l); j++ {
				m := x.tables[i-1].Moves[j]
				out = append(out, byte(m.From))
				if m.From == -1 {
					b, _ := kind.Encode(m.Default, l[j])
					out = append(out, b...)
				}
			}
		}
	}
	return out
}

// decoded is the world that has these bytes; nil, if there is none. It takes what is there as it comes, and asks at the end whether it is all told so.
func decoded(b []byte) world {
	at := 0
	next := func() int {
		at++
		if at > len(b) {
			return 0
		}
		return int(b[at-1])
	}
	some := func(n int) string {
		at += n
		if at > len(b) {
			return ""
		}
		return string(b[at-n : at])
	}
	w := world{}
	for range next() {
		name := some(next())
		x := &told{oldest: next()}
		w[name] = x
		for v, newest := x.oldest, next(); v <= newest && at <= len(b); v++ {
			next()
			next()
			var l []api.Field
			t := table.Table{}
			for range next() {
				l = append(l, api.Field{Name: some(next()), Kind: next(), Long: next()})
			}
			for i := 0; v > x.oldest && i < len(l); i++ {
				m := table.Move{From: next()}
				if m.From == 255 {
					m.From = -1
					m.Default, _ = kind.Decode([]byte(some(kind.Long(l[i]))), l[i])
				}
				t.Moves = append(t.Moves, m)
			}
			if v > x.oldest {
				t.Old, t.New = x.fields[v-1-x.oldest], l
				x.tables = append(x.tables, t)
			}
			x.fields = append(x.fields, l)
		}
	}
	if !w.right() || !bytes.Equal(w.encoded(), b) {
		return nil
	}
	return w
}

// right tells whether a world is one that the chapter has.
func (w world) right() bool {
	ok := len(w) <= 16
	for name, x := range w {
		ok = ok && field.Name(name) && x.oldest >= 1 && len(x.fields) > 0 && x.newest() <= 64
		for _, l := range x.fields {
			ok = ok && field.Right(l)
		}
		for _, t := range x.tables {
			ok = ok && table.Right(t)
		}
	}
	return ok
}

// hold holds all that a catalogue tells against a world.
func hold(t *testing.T, c *Catalogue, w world) {
	t.Helper()
	names := slices.Sorted(maps.Keys(w))
	if got := c.Names(); !slices.Equal(got, names) {
		t.Errorf("Names is %q, want %q", got, names)
	}
	for _, name := range append(names, "nobody", "", "A") {
		x := w[name]
		if x == nil {
			x = &told{oldest: 1}
		}
		low, high, e := c.Versions(name)
		if w[name] == nil && (low != 0 || high != 0 || e != api.ErrSchemaNone) || w[name] != nil && (low != x.oldest || high != x.newest() || e != api.OK) {
			t.Errorf("Versions(%q) is %d, %d, %d; want %d, %d", name, low, high, e, x.oldest, x.newest())
		}
		for _, v := range []int{math.MinInt, -1, 0, x.oldest - 1, x.newest() + 1, 65, 256 + x.oldest, math.MaxInt} {
			if l, e := c.Fields(name, v); l != nil || e != api.ErrSchemaNone {
				t.Errorf("Fields(%q, %d) is %v, %d", name, v, l, e)
			}
		}
		for i, l := range x.fields {
			if got, e := c.Fields(name, x.oldest+i); !slices.Equal(got, l) || e != api.OK {
				t.Errorf("Fields(%q, %d) is %v, %d; want %v", name, x.oldest+i, got, e, l)
			}
		}
	}
	if got := c.Encode(); !bytes.Equal(got, w.encoded()) {
		t.Errorf("Encode is %q, want %q", got, w.encoded())
	}
}

// sample is a catalogue of some types of some versions, with each thing that a version's table can have; and its world.
func sample(t *testing.T) (*Catalogue, world) {
	t.Helper()
	c, w := New(), world{}
	define := func(name string, l ...api.Field) {
		t.Helper()
		if e := c.Define(name, l); e != api.OK || w.define(name, l) != api.OK {
			t.Fatal("Define:", name, e)
		}
	}
	alter := func(name string, cs ...change.Change) {
		t.Helper()
		if _, e := c.Change(name, cs); e != api.OK {
			t.Fatal("Change:", name, e)
		}
		w.change(name, cs)
	}
	retire := func(name string) {
		c.Retire(name, nil)
		w.retire(name, nil)
	}
	define("node", of("n", api.U8), of("next", api.Ref), of("f", api.F64))
	alter("node", recast("n", api.I16, 0), added(text("s", 3), words("a\x00\xff")), recast("f", api.I64, 0))
	alter("node", ordered(3, 0, 2, 1), added(of("r", api.Ref), number(api.Ref, 0)), added(of("i", api.I8), number(api.I8, 1<<64-128)))
	alter("node", renamed("n", "m"), dropped("r"), recast("s", api.Bytes, 5), recast("f", api.F64, 0))
	alter("node")
	define("a")
	alter("a", added(of("x", api.Bool), number(api.Bool, 1)))
	alter("a", dropped("x"))
	define("old", of("k", api.U32))
	alter("old", recast("k", api.U64, 0))
	alter("old", added(of("b", api.Bool), number(api.Bool, 0)))
	retire("old")
	alter("old", dropped("k"))
	define("none")
	return c, w
}

// many is a catalogue of as many types, of as many versions, as there may be.
func many(t *testing.T) (*Catalogue, world) {
	t.Helper()
	c, w := New(), world{}
	for i, name := range goodNames() {
		l := lists()[i%7]
		if c.Define(name, l) != api.OK || w.define(name, l) != api.OK {
			t.Fatal("Define:", name)
		}
		for range i * 63 / 15 {
			cs := []change.Change{added(of("zz", api.U8), number(api.U8, 7)), renamed("zz", "zzz"), dropped("zzz")}
			if len(l) == 16 {
				cs = []change.Change{dropped(l[3].Name), added(l[3], kind.Zero(l[3])), ordered(0, 1, 2, 15, 3, 4, 5, 6, 7, 8, 9, 10, 11, 12, 13, 14)}
			}
			if _, e := c.Change(name, cs); e != api.OK {
				t.Fatal("Change:", name, e)
			}
			w.change(name, cs)
		}
	}
	return c, w
}

// filled is an object of some fields with no byte 0, but that of Bool; of what is between and behind the fields, too.
func filled(l []api.Field) []byte {
	b := field.New(l)
	for i := range b {
		b[i] = byte(0x81 + i)
	}
	at, _ := field.Layout(l)
	for i, f := range l {
		if f.Kind == api.Bool {
			b[at[i]] = 1
		}
	}
	return b
}

// upgrades holds what becomes of an object of each version against a world.
func upgrades(t *testing.T, c *Catalogue, w world) {
	t.Helper()
	for name, x := range w {
		for i, l := range x.fields {
			want, _ := w.upgrade(name, x.oldest+i, filled(l))
			if got, e := c.Upgrade(name, x.oldest+i, filled(l)); !bytes.Equal(got, want) || e != api.OK {
				t.Errorf("Upgrade(%q, %d) is %q, %d; want %q", name, x.oldest+i, got, e, want)
			}
		}
	}
}

func TestP9_1_Examples(t *testing.T) {
	c := New()
	if e := c.Define("a", []api.Field{of("x", api.U8)}); e != api.OK {
		t.Error("Define:", e)
	}
	if v, e := c.Change("a", []change.Change{recast("x", api.U16, 0)}); v != 2 || e != api.OK {
		t.Error("Change:", v, e)
	}
	if low, high, e := c.Versions("a"); low != 1 || high != 2 || e != api.OK {
		t.Error("Versions:", low, high, e)
	}
}

func TestP9_1_NewHasNone(t *testing.T) {
	c := New()
	hold(t, c, world{})
	if c.Names() != nil {
		t.Error("Names of none is a list")
	}
	c.Define("a", nil)
	hold(t, New(), world{})
}

func TestP9_1_DefineEachName(t *testing.T) {
	for _, name := range goodNames() {
		c, w := New(), world{}
		if e := c.Define(name, lists()[4]); e != api.OK {
			t.Errorf("Define(%q): %d", name, e)
		}
		w.define(name, lists()[4])
		hold(t, c, w)
	}
	for _, name := range badNames() {
		c := New()
		for _, l := range append(lists(), wrongLists()...) {
			if e := c.Define(name, l); e != api.ErrFieldForm {
				t.Errorf("Define(%q, %v): %d", name, l, e)
			}
		}
		hold(t, c, world{})
	}
}

func TestP9_1_DefineEachList(t *testing.T) {
	for _, l := range lists() {
		c, w := New(), world{}
		if e := c.Define("x", l); e != api.OK {
			t.Errorf("Define(%v): %d", l, e)
		}
		w.define("x", l)
		hold(t, c, w)
		for _, other := range lists() {
			if e := c.Define("x", other); e != api.ErrSchemaThere {
				t.Errorf("Define(%v) of a type that there is: %d", other, e)
			}
		}
		hold(t, c, w)
	}
	c, w := New(), world{}
	c.Define("x", nil)
	w.define("x", nil)
	for _, l := range wrongLists() {
		for _, name := range []string{"x", "y"} {
			if e := c.Define(name, l); e != api.ErrFieldForm {
				t.Errorf("Define(%q, %v): %d", name, l, e)
			}
		}
	}
	hold(t, c, w)
}

func TestP9_1_NoMoreThanMaxTypes(t *testing.T) {
	c, w := New(), world{}
	for _, name := range goodNames() {
		if e := c.Define(name, lists()[2]); e != api.OK {
			t.Errorf("Define(%q): %d", name, e)
		}
		w.define(name, lists()[2])
		hold(t, c, w)
	}
	for _, name := range []string{"x", "m", "aaa", "k"} {
		if e := c.Define(name, nil); e != api.ErrSchemaThere {
			t.Errorf("Define(%q) of a type too many: %d", name, e)
		}
	}
	if e := c.Define("X", nil); e != api.ErrFieldForm {
		t.Error("a wrong name is told first:", e)
	}
	if e := c.Define("x", wrongLists()[0]); e != api.ErrFieldForm {
		t.Error("wrong fields are told first:", e)
	}
	hold(t, c, w)
}

func TestP9_1_ChangeMakesWhatAllTells(t *testing.T) {
	for _, l := range lists() {
		for i, cs := range [][]change.Change{
			nil, {}, {added(of("z", api.U8), number(api.U8, 9))}, {dropped("a")}, {renamed("a", "z")}, {recast("a", api.U16, 0)}, {ordered(1, 0)}, {ordered()},
			{dropped("a"), added(of("a", api.F64), number(api.F64, 1))}, {renamed("a", "z"), renamed("z", "a")}, {recast("a", api.U32, 0), recast("a", api.F64, 0)},
			{dropped("zz")}, {added(of("z", api.U8), number(api.U8, 256))}, {recast("a", api.I8, 0)}, {renamed("a", "b")}, {{}}, {{Op: 6}}, {recast("a", api.U16, 0), dropped("zz")},
			{recast("f", api.U8, 0), recast("f", api.F64, 0)},
			{added(of("z", api.Bool), number(api.Bool, 1)), recast("z", api.U8, 0), recast("z", api.F64, 0)},
		} {
			c, w := New(), world{}
			c.Define("x", l)
			c.Define("y", l)
			w.define("x", l)
			w.define("y", l)
			want, wantE := w.change("x", cs)
			if got, e := c.Change("x", cs); got != want || e != wantE {
				t.Errorf("Change %d of %v is %d, %d; want %d, %d", i, l, got, e, want, wantE)
			}
			hold(t, c, w)
		}
	}
}

func TestP9_1_ChangeErrors(t *testing.T) {
	c, w := New(), world{}
	l := []api.Field{of("a", api.U8), of("f", api.Bool)}
	c.Define("x", l)
	w.define("x", l)
	for i, x := range []struct {
		cs []change.Change
		e  api.Errno
	}{
		{[]change.Change{dropped("z")}, api.ErrFieldNone}, {[]change.Change{{Op: 7}}, api.ErrChangeForm}, {[]change.Change{dropped("a"), dropped("a")}, api.ErrFieldNone},
		{[]change.Change{dropped("a"), recast("f", api.I8, 0)}, api.ErrChangeForm},
		{[]change.Change{recast("f", api.U8, 0), recast("f", api.F64, 0)}, api.ErrTableForm},
		{[]change.Change{recast("f", api.U8, 0), recast("f", api.F64, 0), dropped("z")}, api.ErrTableForm},
	} {
		if v, e := c.Change("x", x.cs); v != 0 || e != x.e {
			t.Errorf("Change %d is %d, %d; want %d", i, v, e, x.e)
		}
		for _, name := range append(badNames(), "y", "xx") {
			if v, e := c.Change(name, x.cs); v != 0 || e != api.ErrSchemaNone {
				t.Errorf("Change %d of %q is %d, %d", i, name, v, e)
			}
		}
		hold(t, c, w)
	}
	// What can't be done at once can be done by two versions.
	for i, k := range []int{api.U8, api.F64} {
		if v, e := c.Change("x", []change.Change{recast("f", k, 0)}); v != 2+i || e != api.OK {
			t.Errorf("Change to %d is %d, %d", k, v, e)
		}
	}
}

func TestP9_1_NoMoreThanMaxVersions(t *testing.T) {
	c, w := New(), world{}
	c.Define("x", lists()[4])
	w.define("x", lists()[4])
	for n := 2; n <= 64; n++ {
		cs := []change.Change{ordered(6, 0, 1, 2, 3, 4, 5)}
		if v, e := c.Change("x", cs); v != n || e != api.OK {
			t.Errorf("version %d: %d, %d", n, v, e)
		}
		w.change("x", cs)
		hold(t, c, w)
	}
	full := func() {
		t.Helper()
		for i, cs := range [][]change.Change{nil, {ordered(0, 1, 2, 3, 4, 5, 6)}, {dropped("none")}, {{}}} {
			if v, e := c.Change("x", cs); v != 0 || e != api.ErrSchemaThere {
				t.Errorf("change %d of a full type: %d, %d", i, v, e)
			}
		}
		if v, e := c.Change("y", nil); v != 0 || e != api.ErrSchemaNone {
			t.Errorf("no type is told first: %d, %d", v, e)
		}
		hold(t, c, w)
	}
	full()
	// The newest one is still that number.
	if n, e := c.Retire("x", nil); n != 63 || e != api.OK {
		t.Error("Retire:", n, e)
	}
	w.retire("x", nil)
	full()
}

func TestP9_1_NamesRise(t *testing.T) {
	c := New()
	var want []string
	for _, name := range goodNames() {
		c.Define(name, nil)
		want = append(want, name)
		slices.Sort(want)
		if got := c.Names(); !slices.Equal(got, want) {
			t.Errorf("Names is %q, want %q", got, want)
		}
	}
}

func TestP9_2_Examples(t *testing.T) {
	c := New()
	c.Define("a", []api.Field{of("x", api.U8)})
	c.Change("a", []change.Change{recast("x", api.U16, 0)})
	if b, e := c.Upgrade("a", 1, []byte{255, 0, 0, 0, 0, 0, 0, 0}); string(b) != "\xff\x00\x00\x00\x00\x00\x00\x00" || e != api.OK {
		t.Errorf("Upgrade: %q, %d", b, e)
	}
	if n, e := c.Retire("a", []int{1}); n != 0 || e != api.ErrSchemaUse {
		t.Error("Retire of one in use:", n, e)
	}
	if n, e := c.Retire("a", nil); n != 1 || e != api.OK {
		t.Error("Retire:", n, e)
	}
	if low, high, e := c.Versions("a"); low != 2 || high != 2 || e != api.OK {
		t.Error("Versions:", low, high, e)
	}
}

func TestP9_2_UpgradeIsEachTable(t *testing.T) {
	c := New()
	c.Define("x", []api.Field{of("f", api.F64), of("n", api.U8), text("s", 3), of("r", api.Ref)})
	for _, cs := range [][]change.Change{
		{recast("f", api.I64, 0), recast("s", api.Bytes, 1)},
		{recast("f", api.F64, 0), recast("s", api.Bytes, 4), added(of("b", api.Bool), number(api.Bool, 1))},
		{ordered(2, 4, 1, 0, 3), recast("n", api.I16, 0), renamed("b", "c")},
	} {
		if _, e := c.Change("x", cs); e != api.OK {
			t.Fatal("Change:", e)
		}
	}
	object := func(l []api.Field, vs ...api.Value) []byte {
		b := field.New(l)
		for i, v := range vs {
			b, _ = field.Set(b, l, l[i].Name, v)
		}
		return b
	}
	get := func(v int) []api.Field { l, _ := c.Fields("x", v); return l }
	float := func(n float64) api.Value { return number(api.F64, math.Float64bits(n)) }
	// Not at once: 2.5 is 2 on the way, and "abc" is "a".
	first := object(get(1), float(2.5), number(api.U8, 200), words("abc"), number(api.Ref, 77))
	if b, e := c.Upgrade("x", 1, first); e != api.OK || !bytes.Equal(b, object(get(4), words("a\x00\x00\x00"), number(api.Bool, 1), number(api.I16, 200), float(2), number(api.Ref, 77))) {
		t.Errorf("of 1: %q, %d", b, e)
	}
	second := object(get(2), number(api.I64, 1<<64-3), number(api.U8, 1), words("z"), number(api.Ref, 1<<63))
	if b, e := c.Upgrade("x", 2, second); e != api.OK || !bytes.Equal(b, object(get(4), words("z\x00\x00\x00"), number(api.Bool, 1), number(api.I16, 1), float(-3), number(api.Ref, 1<<63))) {
		t.Errorf("of 2: %q, %d", b, e)
	}
	third := object(get(3), float(2.5), number(api.U8, 1), words("z\x00\x00y"), number(api.Ref, 5), number(api.Bool, 0))
	if b, e := c.Upgrade("x", 3, third); e != api.OK || !bytes.Equal(b, object(get(4), words("z\x00\x00y"), number(api.Bool, 0), number(api.I16, 1), float(2.5), number(api.Ref, 5))) {
		t.Errorf("of 3: %q, %d", b, e)
	}
}

func TestP9_2_UpgradeOfEachVersion(t *testing.T) {
	c, w := sample(t)
	for name, x := range w {
		for i, l := range x.fields {
			v := x.oldest + i
			good := filled(l)
			objects := [][]byte{nil, good, field.New(l), append(slices.Clone(good), make([]byte, 8)...), append(slices.Clone(good), 0)}
			if len(good) > 0 {
				objects = append(objects, good[1:], good[:len(good)-8])
			}
			for j := range good {
				other := slices.Clone(good)
				other[j] = 0xfe
				objects = append(objects, other)
			}
			for _, b := range objects {
				want, wantE := w.upgrade(name, v, b)
				got, e := c.Upgrade(name, v, b)
				if !bytes.Equal(got, want) || e != wantE || e != api.OK && got != nil {
					t.Errorf("Upgrade(%q, %d, %q) is %q, %d; want %q, %d", name, v, b, got, e, want, wantE)
				}
			}
		}
		for _, v := range []int{math.MinInt, -1, 0, x.oldest - 1, x.newest() + 1, 64, 65, 256 + x.oldest, math.MaxInt} {
			for _, b := range [][]byte{nil, filled(x.fields[0]), filled(x.fields[len(x.fields)-1])} {
				if got, e := c.Upgrade(name, v, b); got != nil || e != api.ErrSchemaNone {
					t.Errorf("Upgrade(%q, %d, %q) is %q, %d", name, v, b, got, e)
				}
			}
		}
	}
	for _, name := range append(badNames(), "nobody") {
		if got, e := c.Upgrade(name, 1, nil); got != nil || e != api.ErrSchemaNone {
			t.Errorf("Upgrade(%q) is %q, %d", name, got, e)
		}
	}
	hold(t, c, w)
}

func TestP9_2_UpgradeOfTheNewestIsItself(t *testing.T) {
	c := New()
	l := []api.Field{of("b", api.Bool), of("n", api.U32)}
	c.Define("x", l)
	// What is between and behind fields stays, too; an older one's does not.
	b := []byte{1, 2, 3, 4, 5, 6, 7, 8}
	if got, e := c.Upgrade("x", 1, b); !bytes.Equal(got, b) || e != api.OK {
		t.Errorf("the newest one: %q, %d", got, e)
	}
	for _, wrong := range [][]byte{{2, 2, 3, 4, 5, 6, 7, 8}, b[:7], b[:4], nil, append(slices.Clone(b), b...)} {
		if got, e := c.Upgrade("x", 1, wrong); got != nil || e != api.ErrTableForm {
			t.Errorf("Upgrade(%q): %q, %d", wrong, got, e)
		}
	}
	c.Change("x", nil)
	if got, e := c.Upgrade("x", 1, b); !bytes.Equal(got, []byte{1, 0, 0, 0, 5, 6, 7, 8}) || e != api.OK {
		t.Errorf("an older one: %q, %d", got, e)
	}
	for _, wrong := range [][]byte{{2, 2, 3, 4, 5, 6, 7, 8}, b[:7], b[:4], nil, append(slices.Clone(b), b...)} {
		if got, e := c.Upgrade("x", 1, wrong); got != nil || e != api.ErrTableForm {
			t.Errorf("Upgrade(%q) of an older one: %q, %d", wrong, got, e)
		}
	}
	c.Define("none", nil)
	if got, e := c.Upgrade("none", 1, []byte{}); len(got) != 0 || e != api.OK {
		t.Errorf("no fields: %q, %d", got, e)
	}
	if got, e := c.Upgrade("none", 1, []byte{0}); got != nil || e != api.ErrTableForm {
		t.Errorf("no fields of a byte: %q, %d", got, e)
	}
}

func TestP9_2_RetireOfEachVersion(t *testing.T) {
	lives := [][]int{nil, {}, {0}, {-1, 65}, {math.MinInt, math.MaxInt}, {256 + 1, 256 + 2}}
	for v := range 8 {
		lives = append(lives, []int{v}, []int{v, v}, []int{7, v, 0}, []int{9, 5, v})
	}
	for start := 1; start <= 3; start++ {
		for end := start; end <= 5; end++ {
			for _, live := range lives {
				c, w := New(), world{}
				c.Define("x", lists()[4])
				w.define("x", lists()[4])
				c.Define("y", nil)
				w.define("y", nil)
				for v := 2; v <= end; v++ {
					if v == start+1 {
						c.Retire("x", nil)
						w.retire("x", nil)
					}
					c.Change("x", []change.Change{ordered(6, 0, 1, 2, 3, 4, 5)})
					w.change("x", []change.Change{ordered(6, 0, 1, 2, 3, 4, 5)})
				}
				want, wantE := w.retire("x", live)
				if got, e := c.Retire("x", live); got != want || e != wantE {
					t.Errorf("Retire(%v) of %d to %d is %d, %d; want %d, %d", live, start, end, got, e, want, wantE)
				}
				hold(t, c, w)
				if n, e := c.Retire("nobody", live); n != 0 || e != api.ErrSchemaNone {
					t.Errorf("Retire(%v) of nobody is %d, %d", live, n, e)
				}
			}
		}
	}
}

func TestP9_2_WhatIsRetiredIsGone(t *testing.T) {
	c := New()
	c.Define("x", []api.Field{of("n", api.U8)})
	c.Change("x", []change.Change{recast("n", api.U16, 0)})
	c.Change("x", []change.Change{recast("n", api.U32, 0)})
	if n, e := c.Retire("x", []int{3}); n != 2 || e != api.OK {
		t.Error("Retire:", n, e)
	}
	b := []byte{1, 2, 3, 4, 0, 0, 0, 0}
	for v := range 5 {
		got, e := c.Upgrade("x", v, b)
		if v == 3 && (e != api.OK || !bytes.Equal(got, b)) || v != 3 && (e != api.ErrSchemaNone || got != nil) {
			t.Errorf("Upgrade of %d: %q, %d", v, got, e)
		}
	}
	if n, e := c.Retire("x", []int{1, 2, 3}); n != 0 || e != api.OK {
		t.Error("Retire of what is retired:", n, e)
	}
	// The next number is the next one, and the table from the newest one is there.
	if v, e := c.Change("x", []change.Change{recast("n", api.U64, 0)}); v != 4 || e != api.OK {
		t.Error("Change:", v, e)
	}
	if got, e := c.Upgrade("x", 3, b); e != api.OK || !bytes.Equal(got, b) {
		t.Errorf("Upgrade: %q, %d", got, e)
	}
	if n, e := c.Retire("x", []int{3}); n != 0 || e != api.ErrSchemaUse {
		t.Error("Retire of one in use:", n, e)
	}
}

func TestP9_3_EncodeByHand(t *testing.T) {
	if b := New().Encode(); !bytes.Equal(b, []byte{0}) {
		t.Errorf("of none: %q", b)
	}
	c := New()
	c.Define("bc", []api.Field{of("x", api.U16), of("y", api.I8)})
	c.Define("a", nil)
	c.Change("a", []change.Change{added(text("s", 2), words("\xff\x00")), added(of("n", api.I32), number(api.I32, 1<<64-2))})
	c.Change("bc", []change.Change{ordered(1, 0)})
	c.Retire("bc", nil)
	c.Change("bc", []change.Change{dropped("x"), added(of("r", api.Ref), number(api.Ref, 0))})
	want := "\x02" +
		"\x01a\x01\x02" + "\x01\x00\x00" +
		"\x09\x00\x02\x01s\x0c\x02\x01n\x07\x00" + "\xff\xff\x00" + "\xff\xfe\xff\xff\xff" +
		"\x02bc\x02\x03" + "\x09\x00\x02\x01y\x05\x00\x01x\x02\x00" +
		"\x09\x00\x02\x01y\x05\x00\x01r\x0b\x00" + "\x00" + "\xff\x00\x00\x00\x00\x00\x00\x00\x00"
	if b := c.Encode(); string(b) != want {
		t.Errorf("Encode is %q", b)
	}
	d, e := Decode([]byte(want))
	if e != api.OK {
		t.Fatal("Decode:", e)
	}
	hold(t, d, decoded([]byte(want)))
	if b, e := d.Upgrade("a", 1, nil); string(b) != "\xff\x00\x00\x00\xfe\xff\xff\xff" || e != api.OK {
		t.Errorf("Upgrade: %q, %d", b, e)
	}
}

func TestP9_3_EncodeIsWhatTheChapterTells(t *testing.T) {
	c, w := sample(t)
	hold(t, c, w)
	c, w = many(t)
	hold(t, c, w)
	if low, high, _ := c.Versions("i"); low != 1 || high != 64 || len(c.Names()) != 16 {
		t.Error("not as many as there may be:", low, high, len(c.Names()))
	}
}

// asked holds Decode of some bytes against the test's own.
func asked(t *testing.T, b []byte) bool {
	t.Helper()
	given := slices.Clone(b)
	w := decoded(b)
	c, e := Decode(b)
	if !bytes.Equal(b, given) {
		t.Errorf("Decode changed what it was given: %q", given)
	}
	if w == nil {
		if e != api.ErrSchemaForm || c != nil {
			t.Errorf("Decode(%q) is %v, %d", b, c, e)
		}
		return false
	}
	if e != api.OK || c == nil {
		t.Errorf("Decode(%q) is %d", b, e)
		return true
	}
	if !bytes.Equal(c.Encode(), b) {
		t.Errorf("Decode(%q) is %q", b, c.Encode())
	}
	return true
}

func TestP9_3_DecodeOfEachByteChanged(t *testing.T) {
	c, w := sample(t)
	b := c.Encode()
	good := 0
	for i := range b {
		asked(t, b[:i])
		asked(t, b[i+1:])
		asked(t, slices.Delete(slices.Clone(b), i, i+1))
		for n := range 256 {
			other := slices.Clone(b)
			other[i] = byte(n)
			if asked(t, other) {
				good++
			}
			if n < 3 || n > 253 {
				asked(t, slices.Insert(slices.Clone(b), i, byte(n)))
			}
		}
	}
	if good <= len(b) || good >= len(b)*200 {
		t.Errorf("%d of %d are good", good, len(b)*256)
	}
	for n := range 256 {
		asked(t, append(slices.Clone(b), byte(n)))
	}
	d, e := Decode(b)
	if e != api.OK {
		t.Fatal("Decode:", e)
	}
	hold(t, d, w)
}

func TestP9_3_DecodeOfWrongBytes(t *testing.T) {
	one := "\x01x\x01\x01\x01\x00\x00"
	next := "\x04\x00\x01\x01a\x01\x00"
	full, _ := many(t)
	all := string(full.Encode())
	for i, s := range []string{
		"", "\x00\x00", "\x01", "\x01" + one[:6], "\x01" + one + "\x00", "\x02" + one, "\x02" + one + one,
		"\x02" + "\x01y\x01\x01\x01\x00\x00" + one, "\x02" + "\x02xa\x01\x01\x01\x00\x00" + one, "\x01\x00\x01\x01\x01\x00\x00", "\x01\x01X\x01\x01\x01\x00\x00", "\x01\x10abcdefghijklmnop\x01\x01\x01\x00\x00",
		"\x01\x01x\x00\x00\x01\x00\x00", "\x01\x01x\x00\x01\x01\x00\x00\x01\x00\x00", "\x01\x01x\x02\x01\x01\x00\x00", "\x01\x01x\x02\x01", "\x01\x01x\x41\x41\x01\x00\x00", "\x01\x01x\x40\x41\x01\x00\x00\x01\x00\x00", "\x01\x01x\xff\xff\x01\x00\x00",
		"\x01\x01x\x01\x01\x00\x00", "\x01\x01x\x01\x01\x02\x00\x00\x00", "\x01\x01x\x01\x01\x01\x01\x00", "\x01\x01x\x01\x01\x05\x00\x01\x01a\x00\x00", "\x01\x01x\x01\x01\x05\x00\x01\x01A\x01\x00", "\x01\x01x\x01\x01\x09\x00\x02\x01a\x01\x00\x01a\x01\x00", "\x01\x01x\x01\x01\x04\x00\x01\x01a\x01\x00",
		"\x01\x01x\x01\x02\x01\x00\x00" + next + "\x00", "\x01\x01x\x01\x02\x01\x00\x00" + next + "\xff", "\x01\x01x\x01\x02\x01\x00\x00\x05\x00\x01\x01a\x01\x00\x00", "\x01\x01x\x01\x02\x01\x00\x00\x05\x00\x01\x01a\x01\x00\xfe", "\x01\x01x\x01\x02\x01\x00\x00\x05\x00\x01\x01a\x09\x00\xff\x02", "\x01\x01x\x01\x02\x01\x00\x00\x05\x00\x01\x01a\x0b\x00\xff\x01\x00\x00\x00\x00\x00\x00\x00",
		"\x01\x01x\x01\x02\x05\x00\x01\x01a\x01\x00\x05\x00\x01\x01a\x05\x00\x00", "\x01\x01x\x01\x02\x05\x00\x01\x01a\x01\x00\x05\x00\x01\x01a\x02\x00\x01",
		"\x11" + all[1:], "\x0f" + all[1:], "\x11" + all[1:] + "\x02zz\x01\x01\x01\x00\x00", "\x11" + all[1:] + "\x03zzz\x01\x01\x01\x00\x00",
	} {
		if decoded([]byte(s)) != nil {
			t.Errorf("the test's own takes %d", i)
		}
		if c, e := Decode([]byte(s)); c != nil || e != api.ErrSchemaForm {
			t.Errorf("Decode of %d, %.40q, is %v, %d", i, s, c, e)
		}
	}
	if c, e := Decode(nil); c != nil || e != api.ErrSchemaForm {
		t.Error("Decode of no bytes:", c, e)
	}
}

func TestP9_3_DecodeOfRightBytes(t *testing.T) {
	for i, s := range []string{
		"\x00", "\x01\x01x\x01\x01\x01\x00\x00", "\x01\x0fabcdefghijklmno\x40\x40\x01\x00\x00", "\x02\x01x\x01\x01\x01\x00\x00\x01y\x01\x01\x01\x00\x00", "\x02\x01x\x01\x01\x01\x00\x00\x02xa\x01\x01\x01\x00\x00",
		"\x01\x01x\x3f\x40\x01\x00\x00\x01\x00\x00", "\x01\x01x\x01\x02\x01\x00\x00\x05\x00\x01\x01a\x09\x00\xff\x01", "\x01\x01x\x01\x02\x05\x00\x01\x01a\x01\x00\x05\x00\x01\x01b\x06\x00\x00",
		// One field of two: a right table, though no change makes it.
		"\x01\x01x\x01\x02\x05\x00\x01\x01a\x01\x00\x09\x00\x02\x01a\x01\x00\x01b\x01\x00\x00\x00",
	} {
		c, e := Decode([]byte(s))
		if e != api.OK || decoded([]byte(s)) == nil {
			t.Errorf("Decode of %d, %q, is %d", i, s, e)
			continue
		}
		hold(t, c, decoded([]byte(s)))
	}
}

func TestP9_3_CopyIsOfItsOwn(t *testing.T) {
	c, w := sample(t)
	d := c.Copy()
	hold(t, d, w)
	upgrades(t, d, w)
	hold(t, New().Copy(), world{})
	// Each is changed now, the other stays.
	before := decoded(w.encoded())
	c.Define("more", lists()[2])
	c.Change("node", []change.Change{dropped("m")})
	c.Retire("a", nil)
	hold(t, d, before)
	told := c.Encode()
	if v, e := d.Change("node", []change.Change{dropped("next")}); v != 6 || e != api.OK {
		t.Error("Change of the copy:", v, e)
	}
	d.Change("node", nil)
	d.Define("other", lists()[3])
	d.Retire("old", nil)
	if !bytes.Equal(c.Encode(), told) {
		t.Errorf("the copy's changes are to be seen: %q", c.Encode())
	}
	if l, _ := c.Fields("node", 6); field.Find(l, "m") >= 0 || field.Find(l, "next") < 0 {
		t.Error("the copy's version is seen:", l)
	}
	if l, _ := d.Fields("node", 6); field.Find(l, "next") >= 0 || field.Find(l, "m") < 0 {
		t.Error("the other's version is seen:", l)
	}
}

func TestP9_3_TwoCopiesOfOne(t *testing.T) {
	c, _ := sample(t)
	c.Change("node", nil)
	var all []*Catalogue
	for range 3 {
		all = append(all, c.Copy())
	}
	for i, d := range append(all, c) {
		f := of("own", 1+i)
		d.Change("node", []change.Change{added(f, kind.Zero(f))})
	}
	for i, d := range append(all, c) {
		l, e := d.Fields("node", 7)
		if e != api.OK || l[len(l)-1] != of("own", 1+i) {
			t.Errorf("of %d: %v, %d", i, l, e)
		}
	}
}

func TestP9_4_UpgradeOfWhatIsUpgraded(t *testing.T) {
	c, w := sample(t)
	for name, x := range w {
		for i, l := range x.fields {
			b, e := c.Upgrade(name, x.oldest+i, filled(l))
			if e != api.OK {
				t.Errorf("Upgrade(%q, %d): %d", name, x.oldest+i, e)
			}
			if again, e := c.Upgrade(name, x.newest(), b); !bytes.Equal(again, b) || e != api.OK {
				t.Errorf("once more: %q, %d; want %q", again, e, b)
			}
		}
	}
}

func TestP9_4_NoVersionIsChangedLater(t *testing.T) {
	c, w := New(), world{}
	kinds := []int{api.U8, api.U16, api.U32, api.U64, api.F64}
	for round := range 40 {
		name := goodNames()[round%16]
		if round < 16 {
			c.Define(name, lists()[2])
			w.define(name, lists()[2])
		}
		for i, k := range kinds {
			cs := []change.Change{recast("a", k, 0)}
			if i%2 == 1 {
				cs = append(cs, added(text("s", i), words("abcde"[:i])), renamed("s", "t"))
			}
			want, wantE := w.change(name, cs)
			if v, e := c.Change(name, cs); v != want || e != wantE {
				t.Errorf("Change(%q, %v) is %d, %d; want %d, %d", name, cs, v, e, want, wantE)
			}
			hold(t, c, w)
		}
	}
}

func TestP9_4_DecodeOfEncode(t *testing.T) {
	one, small := sample(t)
	two, great := many(t)
	for i, x := range []struct {
		c *Catalogue
		w world
	}{{New(), world{}}, {one, small}, {two, great}} {
		d, e := Decode(x.c.Encode())
		if e != api.OK {
			t.Errorf("of %d: %d", i, e)
			continue
		}
		hold(t, d, x.w)
		upgrades(t, d, x.w)
		for name := range x.w {
			// It goes on just so.
			want, wantE := x.c.Copy().Change(name, nil)
			if got, e := d.Change(name, nil); got != want || e != wantE {
				t.Errorf("Change(%q) is %d, %d; want %d, %d", name, got, e, want, wantE)
			}
		}
	}
}

func TestP9_4_WhateverBytesCome(t *testing.T) {
	// All of up to 5 bytes of some.
	few := []byte{0, 1, 2, 'a', 255}
	var each func(b []byte)
	each = func(b []byte) {
		asked(t, b)
		if len(b) == 5 {
			return
		}
		for _, n := range few {
			each(append(slices.Clone(b), n))
		}
	}
	each(nil)
	// And those of a catalogue, some bytes of which are others.
	c, _ := sample(t)
	b := c.Encode()
	n := uint32(1)
	next := func(below int) int {
		n = n*1664525 + 1013904223
		return int(n>>8) % below
	}
	for range 20000 {
		other := slices.Clone(b)
		for range 1 + next(3) {
			at := next(len(other))
			switch next(4) {
			case 0:
				other = slices.Delete(other, at, at+1)
			case 1:
				other = slices.Insert(other, at, byte(next(16)))
			case 2:
				from := next(len(b))
				other = append(other[:at:at], b[from:]...)
			default:
				other[at] = byte(next(256))
			}
		}
		asked(t, other)
	}
}

func TestP9_4_AnyCalls(t *testing.T) {
	n := uint32(7)
	next := func(below int) int {
		n = n*1664525 + 1013904223
		return int(n>>8) % below
	}
	names := append(goodNames()[:3], "q", "", "Q")
	shapes := []api.Field{of("", api.U8), of("", api.U16), of("", api.I64), of("", api.F64), of("", api.Bool), of("", api.Ref), text("", 3), of("", 0)}
	fields := []string{"a", "b", "c", "B"}
	some := func() []change.Change {
		var cs []change.Change
		for range next(4) {
			f := shapes[next(len(shapes))]
			cs = append(cs, change.Change{Op: 1 + next(5), Name: fields[next(4)], To: api.Field{Name: fields[next(4)], Kind: f.Kind, Long: f.Long}, Default: kind.Zero(f), Order: [][]int{{0}, {1, 0}, {2, 0, 1}}[next(3)]})
		}
		return cs
	}
	c, w := New(), world{}
	for step := range 4000 {
		name := names[next(len(names))]
		switch next(8) {
		case 0:
			l := append(slices.Clone(lists()[next(4)]), append(lists(), wrongLists()...)[next(12)]...)
			want := w.define(name, l)
			if e := c.Define(name, l); e != want {
				t.Fatalf("step %d: Define(%q, %v) is %d, want %d", step, name, l, e, want)
			}
		case 1:
			live := []int{next(70) - 2, next(70) - 2}[:next(3)]
			want, wantE := w.retire(name, live)
			if got, e := c.Retire(name, live); got != want || e != wantE {
				t.Fatalf("step %d: Retire(%q, %v) is %d, %d; want %d, %d", step, name, live, got, e, want, wantE)
			}
		case 2:
			c = c.Copy()
		case 3:
			d, e := Decode(c.Encode())
			if e != api.OK {
				t.Fatalf("step %d: Decode: %d", step, e)
			}
			c = d
		case 4:
			v := next(66)
			b := make([]byte, 8*next(5))
			for i := range b {
				b[i] = byte(next(2))
			}
			want, wantE := w.upgrade(name, v, b)
			if got, e := c.Upgrade(name, v, b); !bytes.Equal(got, want) || e != wantE {
				t.Fatalf("step %d: Upgrade(%q, %d, %q) is %q, %d; want %q, %d", step, name, v, b, got, e, want, wantE)
			}
		default:
			cs := some()
			want, wantE := w.change(name, cs)
			if got, e := c.Change(name, cs); got != want || e != wantE {
				t.Fatalf("step %d: Change(%q, %v) is %d, %d; want %d, %d", step, name, cs, got, e, want, wantE)
			}
		}
		if step%20 == 0 {
			hold(t, c, w)
		}
	}
	hold(t, c, w)
}

func TestP9_R5_R6_WhatIsGivenAndTold(t *testing.T) {
	w := world{}
	c := New()
	// With room behind each list, so that an append into it would be seen.
	room := make([]api.Field, 0, 20)
	l := append(room, of("a", api.U8), text("b", 3))
	spare := room[:20]
	given := slices.Clone(spare)
	c.Define("x", l)
	w.define("x", slices.Clone(l))
	cs := make([]change.Change, 0, 8)
	cs = append(cs, added(of("n", api.I8), number(api.I8, 5)), ordered(2, 0, 1))
	order := slices.Clone(cs[1].Order)
	c.Change("x", cs)
	w.change("x", []change.Change{cs[0], ordered(2, 0, 1)})
	live := []int{9, 2, 0}
	c.Change("x", nil)
	w.change("x", nil)
	if _, e := c.Retire("x", live); e != api.ErrSchemaUse || !slices.Equal(live, []int{9, 2, 0}) {
		t.Error("Retire changed what it was given:", live, e)
	}
	if !slices.Equal(spare, given) || !slices.Equal(cs[1].Order, order) {
		t.Error("what was given is changed")
	}
	for i := range spare {
		spare[i] = of("spoilt", 99)
	}
	cs[1].Order[0], cs[0] = 7, change.Change{}
	hold(t, c, w)
	// What is told is written into, and into the room behind it.
	spoil := func() {
		for v := 1; v <= 3; v++ {
			l, _ := c.Fields("x", v)
			for i := range l[:cap(l)] {
				l[:cap(l)][i] = of("spoilt", 98)
			}
		}
		names := c.Names()
		names[0] = "spoilt"
		b := c.Encode()
		clear(b[:cap(b)])
	}
	spoil()
	hold(t, c, w)
	coded := c.Encode()
	d, _ := Decode(coded)
	clear(coded)
	spoil()
	hold(t, d, w)
	for v := 1; v <= 3; v++ {
		own := filled(w["x"].fields[v-1])
		b := append(make([]byte, 0, 64), own...)
		got, e := c.Upgrade("x", v, b)
		if e != api.OK || !bytes.Equal(b, own) {
			t.Errorf("Upgrade changed what it was given: %q, %d", b, e)
		}
		keep := slices.Clone(got)
		for i := range b[:64] {
			b[:64][i] = 7
		}
		if !bytes.Equal(got, keep) {
			t.Errorf("Upgrade of %d shares with what it was given", v)
		}
	}
	e := c.Copy()
	for v := 1; v <= 3; v++ {
		l, _ := e.Fields("x", v)
		clear(l)
	}
	hold(t, c, w)
	hold(t, e, w)
}

func TestP9_R7_TheSameCallsTellTheSame(t *testing.T) {
	one, _ := many(t)
	for range 20 {
		other, _ := many(t)
		if !bytes.Equal(one.Encode(), other.Encode()) || !slices.Equal(one.Names(), other.Names()) || !bytes.Equal(one.Copy().Encode(), one.Encode()) {
			t.Fatal("another time it is other")
		}
	}
}
