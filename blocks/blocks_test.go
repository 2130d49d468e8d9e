package blocks

import (
	"bytes"
	"math"
	"slices"
	"testing"

	"ecdysis/api"
)

// units is blocks as the chapter has them, told once more: of each unit where the block begins that it is in; -1, if it is in none.
type units []int

func free(many int) units { return slices.Repeat(units{-1}, many) }

func (u units) used() int {
	n := 0
	for _, at := range u {
		if at >= 0 {
			n++
		}
	}
	return n
}

func (u units) empty(at, n int) bool {
	return !slices.ContainsFunc(u[at:at+n], func(begin int) bool { return begin >= 0 })
}

// first is the first place where n units are free; -1, if there is none.
func (u units) first(n int) int {
	for at := 0; at+n <= len(u); at++ {
		if u.empty(at, n) {
			return at
		}
	}
	return -1
}

func (u units) largest() int {
	n := 0
	for n < len(u) && u.first(n+1) >= 0 {
		n++
	}
	return n
}

func (u units) long(at int) int {
	n := 0
	for _, begin := range u {
		if begin == at && at >= 0 {
			n++
		}
	}
	return n
}

func (u units) put(at, n, mark int) {
	for i := range n {
		u[at+i] = mark
	}
}

func (u units) take(n int) (int, api.Errno) {
	switch {
	case n < 1:
		return 0, api.ErrArg
	case n > u.largest():
		return 0, api.ErrBlocksFull
	}
	at := u.first(n)
	u.put(at, n, at)
	return at, api.OK
}

func (u units) claim(at, n int) api.Errno {
	switch {
	case n < 1, at < 0, at > len(u), n > len(u)-at:
		return api.ErrArg
	case !u.empty(at, n):
		return api.ErrBlocksFull
	}
	u.put(at, n, at)
	return api.OK
}

func (u units) free(at int) api.Errno {
	n := u.long(at)
	if n == 0 {
		return api.ErrBlocksFree
	}
	u.put(at, n, -1)
	return api.OK
}

// pairs is all blocks, rising.
func (u units) pairs() [][2]int {
	var out [][2]int
	for at := range u {
		if n := u.long(at); n > 0 {
			out = append(out, [2]int{at, n})
		}
	}
	return out
}

func two(numbers ...int) []byte {
	var out []byte
	for _, n := range numbers {
		out = append(out, byte(n), byte(n>>8))
	}
	return out
}

func (u units) encode() []byte {
	pairs := u.pairs()
	out := two(len(u), len(pairs))
	for _, p := range pairs {
		out = append(out, two(p[0], p[1])...)
	}
	return out
}

// read is the units that these bytes tell, and whether they are any's.
func read(x []byte) (units, bool) {
	number := func(i int) int { return int(x[2*i]) + 256*int(x[2*i+1]) }
	if len(x) < 4 || number(0) > 1024 || len(x) != 4+4*number(1) {
		return nil, false
	}
	u := free(number(0))
	for i := range number(1) {
		at, n := number(2+2*i), number(3+2*i)
		if i > 0 && at <= number(2*i) || u.claim(at, n) != api.OK {
			return nil, false
		}
	}
	return u, true
}

func told(b *Blocks) [][2]int {
	var out [][2]int
	for at, n := range b.Each() {
		out = append(out, [2]int{at, n})
	}
	return out
}

// hold holds all that b tells against u.
func hold(t *testing.T, b *Blocks, u units, why ...any) {
	t.Helper()
	if b.Units() != len(u) || b.Used() != u.used() || b.Largest() != u.largest() {
		t.Fatal(why, "units, used, largest:", b.Units(), b.Used(), b.Largest(), u)
	}
	if got := told(b); !slices.Equal(got, u.pairs()) {
		t.Fatal(why, "each:", got, u)
	}
	for _, at := range append(edges(), len(u)-1, len(u), len(u)+1) {
		if got := b.Long(at); got != u.long(at) {
			t.Fatal(why, "long:", at, got, u)
		}
	}
	if got := b.Encode(); !bytes.Equal(got, u.encode()) {
		t.Fatal(why, "encode:", got, u)
	}
}

func edges() []int {
	return []int{math.MinInt, math.MinInt + 1, -65536, -2, -1, 0, 1, 2, 3, 4, 5, 6, 7, 1023, 1024, 1025, 65535, 65536, 65537, math.MaxInt - 1, math.MaxInt}
}

func made(t *testing.T, many int) *Blocks {
	t.Helper()
	b, e := New(many)
	if e != api.OK {
		t.Fatal(many, e)
	}
	return b
}

// as is blocks that stand as u tells.
func as(t *testing.T, u units) *Blocks {
	t.Helper()
	b := made(t, len(u))
	for _, p := range u.pairs() {
		if e := b.Claim(p[0], p[1]); e != api.OK {
			t.Fatal(u, p, e)
		}
	}
	return b
}

// all is every way in which so many units may stand.
func all(many int) []units {
	if many == 0 {
		return []units{{}}
	}
	var out []units
	for _, u := range all(many - 1) {
		out = append(out, append(slices.Clone(u), -1))
	}
	for n := 1; n <= many; n++ {
		for _, u := range all(many - n) {
			out = append(out, append(u, slices.Repeat(units{many - n}, n)...))
		}
	}
	return out
}

// ways is every way in which none to six units may stand.
func ways() []units {
	var out []units
	for many := range 7 {
		out = append(out, all(many)...)
	}
	return out
}

func TestP10_1_New(t *testing.T) {
	for _, many := range []int{math.MinInt, -1024, -2, -1, 1025, 1026, 65536, math.MaxInt} {
		if b, e := New(many); b != nil || e != api.ErrArg {
			t.Error("not refused:", many, b, e)
		}
	}
	for _, many := range []int{0, 1, 2, 7, 255, 256, 257, 1023, 1024} {
		hold(t, made(t, many), free(many))
	}
	one, other := made(t, 3), made(t, 3)
	one.Take(2)
	hold(t, other, free(3), "two of them share")
}

func TestP10_1_TheExample(t *testing.T) {
	b := made(t, 5)
	a1, e1 := b.Take(2)
	a2, e2 := b.Take(2)
	e3 := b.Free(0)
	a4, e4 := b.Take(3)
	a5, e5 := b.Take(1)
	if a1 != 0 || a2 != 2 || a4 != 0 || a5 != 0 {
		t.Error("places:", a1, a2, a4, a5)
	}
	if e1 != api.OK || e2 != api.OK || e3 != api.OK || e4 != api.ErrBlocksFull || e5 != api.OK {
		t.Error("errors:", e1, e2, e3, e4, e5)
	}
}

func TestP10_1_Take(t *testing.T) {
	for _, u := range ways() {
		for _, n := range edges() {
			b, want := as(t, u), slices.Clone(u)
			wantAt, wantE := want.take(n)
			if at, e := b.Take(n); at != wantAt || e != wantE {
				t.Fatal(u, n, at, e)
			}
			hold(t, b, want, "take", u, n)
		}
	}
}

func TestP10_1_Claim(t *testing.T) {
	for _, u := range ways() {
		for _, at := range edges() {
			for _, n := range edges() {
				b, want := as(t, u), slices.Clone(u)
				wantE := want.claim(at, n)
				if e := b.Claim(at, n); e != wantE {
					t.Fatal(u, at, n, e)
				}
				// With an error nothing has changed: to hold the bytes against it will do.
				if got := b.Encode(); !bytes.Equal(got, want.encode()) {
					t.Fatal("claim", u, at, n, got)
				}
			}
		}
	}
}

func TestP10_1_ClaimIsAskedInOrder(t *testing.T) {
	b := made(t, 5)
	b.Take(5)
	for _, x := range []struct {
		at, n int
		e     api.Errno
	}{{0, 0, api.ErrArg}, {2, -1, api.ErrArg}, {-1, 2, api.ErrArg}, {4, 2, api.ErrArg}, {5, 1, api.ErrArg}, {4, 1, api.ErrBlocksFull}, {1, math.MaxInt, api.ErrArg},
		{math.MaxInt, math.MaxInt, api.ErrArg}, {math.MinInt, math.MaxInt, api.ErrArg}, {math.MaxInt, 1, api.ErrArg}} {
		if e := b.Claim(x.at, x.n); e != x.e {
			t.Error(x, e)
		}
	}
}

func TestP10_1_Free(t *testing.T) {
	for _, u := range ways() {
		for _, at := range edges() {
			b, want := as(t, u), slices.Clone(u)
			wantE := want.free(at)
			if e := b.Free(at); e != wantE {
				t.Fatal(u, at, e)
			}
			hold(t, b, want, "free", u, at)
		}
	}
}

func TestP10_1_Each(t *testing.T) {
	for _, u := range ways() {
		b, pairs := as(t, u), u.pairs()
		each := b.Each()
		// As often as one likes, and as far as one likes.
		for stop := range len(pairs) + 2 {
			var got [][2]int
			each(func(at, n int) bool {
				got = append(got, [2]int{at, n})
				return len(got) < stop
			})
			if want := pairs[:min(max(stop, 1), len(pairs))]; !slices.Equal(got, want) {
				t.Fatal(u, stop, got)
			}
		}
		for range each {
			if got := told(b); !slices.Equal(got, pairs) {
				t.Fatal("one in the other:", u, got)
			}
		}
		hold(t, b, u, "each", u)
	}
}

// The blocks may change while they are gone through: the calls made meanwhile tell what they always do, and it ends.
func TestP10_1_EachAndChange(t *testing.T) {
	for _, u := range ways() {
		b, want := as(t, u), slices.Clone(u)
		for at, n := range b.Each() {
			if want.long(at) != n || b.Free(at) != want.free(at) {
				t.Fatal(u, at, n)
			}
		}
		hold(t, b, free(len(u)), "all are freed", u)
		b, want = as(t, u), slices.Clone(u)
		last := -1
		for at, n := range b.Each() {
			if at <= last || want.long(at) != n {
				t.Fatal("none there, or not rising:", u, at, n)
			}
			last = at
			want.free(at)
			b.Free(at)
			for _, more := range []int{1, n, 2} {
				wantAt, wantE := want.take(more)
				if got, e := b.Take(more); got != wantAt || e != wantE {
					t.Fatal("take meanwhile:", u, at, n, got, e)
				}
			}
		}
		hold(t, b, want, "taken meanwhile", u)
	}
}

func TestP10_1_Copy(t *testing.T) {
	for _, u := range ways() {
		b := as(t, u)
		c := b.Copy()
		hold(t, c, u, "copy", u)
		want := slices.Clone(u)
		want.take(1)
		b.Take(1)
		for _, p := range u.pairs() {
			want.free(p[0])
			b.Free(p[0])
		}
		hold(t, b, want, "the first one", u)
		hold(t, c, u, "the copy has changed", u)
		d := b.Copy()
		d.Take(2)
		d.Take(1)
		hold(t, b, want, "the first one has changed", u)
	}
}

func TestP10_1_AllUnits(t *testing.T) {
	b, u := made(t, 1024), free(1024)
	for at := range 1024 {
		if got, e := b.Take(1); got != at || e != api.OK {
			t.Fatal(at, got, e)
		}
		u[at] = at
	}
	if at, e := b.Take(1); at != 0 || e != api.ErrBlocksFull {
		t.Error("full:", at, e)
	}
	if b.Used() != 1024 || b.Largest() != 0 || len(told(b)) != 1024 || b.Long(1023) != 1 || b.Long(1024) != 0 {
		t.Error("full:", b.Used(), b.Largest())
	}
	x := b.Encode()
	if !bytes.Equal(x, u.encode()) || len(x) != 4+4*1024 {
		t.Error("bytes:", len(x))
	}
	c, e := Decode(x)
	if e != api.OK || !bytes.Equal(c.Encode(), x) {
		t.Error("read again:", e)
	}
	// Each other one is free: there are 512 units, and none of two.
	for at := 1; at < 1024; at += 2 {
		b.Free(at)
	}
	if at, e := b.Take(2); at != 0 || e != api.ErrBlocksFull || b.Largest() != 1 || b.Used() != 512 {
		t.Error("each other one:", at, e)
	}
	b = made(t, 1024)
	if at, e := b.Take(1024); at != 0 || e != api.OK || b.Long(0) != 1024 || b.Largest() != 0 {
		t.Error("all at once:", at, e)
	}
	if s := string(b.Encode()); s != "\x00\x04\x01\x00\x00\x00\x00\x04" {
		t.Errorf("all at once: %q", s)
	}
}

func TestP10_2_Encode(t *testing.T) {
	b := made(t, 1000)
	b.Claim(700, 300)
	b.Claim(0, 1)
	b.Claim(256, 257)
	if s := string(b.Encode()); s != "\xe8\x03\x03\x00\x00\x00\x01\x00\x00\x01\x01\x01\xbc\x02\x2c\x01" {
		t.Errorf("%q", s)
	}
	if s := string(made(t, 0).Encode()); s != "\x00\x00\x00\x00" {
		t.Errorf("none: %q", s)
	}
}

func TestP10_2_Decode(t *testing.T) {
	for _, u := range ways() {
		x := u.encode()
		b, e := Decode(x)
		if e != api.OK {
			t.Fatal(u, e)
		}
		hold(t, b, u, "decode")
		same(t, x)
		for i := range x {
			same(t, x[:i])
			for c := range 256 {
				y := slices.Clone(x)
				y[i] = byte(c)
				same(t, y)
			}
		}
		for _, more := range [][]byte{{0}, {0, 0}, {0, 0, 0, 0}, {1, 0, 1, 0}, {6, 0, 1, 0}, {0, 0, 1}} {
			same(t, append(slices.Clone(x), more...))
		}
	}
}

// same asks Decode of x, and holds it against read.
func same(t *testing.T, x []byte) {
	t.Helper()
	u, ok := read(x)
	b, e := Decode(x)
	if !ok && (b != nil || e != api.ErrBlocksForm) || ok && e != api.OK {
		t.Fatal(x, b, e, "want", ok)
	}
	if ok && !bytes.Equal(b.Encode(), x) {
		t.Fatal(x, b.Encode(), u)
	}
}

func TestP10_2_DecodeNumbers(t *testing.T) {
	numbers := []int{0, 1, 2, 3, 4, 5, 255, 256, 1023, 1024, 1025, 65535}
	for _, many := range numbers {
		same(t, two(many))
		for _, count := range []int{0, 1, 2, 65535} {
			same(t, two(many, count))
			for _, at := range numbers {
				for _, n := range numbers {
					same(t, two(many, count, at, n))
					same(t, two(many, count, 1, 1, at, n))
					same(t, two(many, count, at, n, 3, 1))
				}
			}
		}
	}
	// Three blocks: two that rise and then one that does not.
	for _, x := range [][]byte{two(9, 3, 1, 1, 4, 2, 2, 1), two(9, 3, 1, 1, 4, 2, 5, 1), two(9, 3, 1, 1, 4, 2, 4, 2), two(9, 3, 1, 1, 4, 2, 6, 3), two(9, 3, 1, 1, 4, 2, 6, 4), two(9, 2, 1, 1, 4, 2, 6, 1)} {
		same(t, x)
	}
	for _, x := range [][]byte{nil, {}, {0}, two(0), {0, 0, 0}} {
		if b, e := Decode(x); b != nil || e != api.ErrBlocksForm {
			t.Error("not refused:", x, b, e)
		}
	}
	if b, e := Decode(two(0, 0)); e != api.OK || b.Units() != 0 {
		t.Error("no units:", e)
	}
}

// Of 1024 units, each one a block, but one of them wrong: so many are read, and refused.
func TestP10_2_DecodeMany(t *testing.T) {
	u := free(1024)
	for at := range u {
		u[at] = at
	}
	x := u.encode()
	same(t, x)
	for _, i := range []int{0, 2, 4, 6, 2000, len(x) - 4, len(x) - 2} {
		for _, c := range []byte{0, 1, 2, 255} {
			y := slices.Clone(x)
			y[i] = c
			same(t, y)
		}
	}
}

func TestP10_2_BytesAreTheCallersOwn(t *testing.T) {
	u := units{-1, 1, 1, -1, 4}
	b := as(t, u)
	x := b.Encode()
	spoil(x)
	hold(t, b, u, "what Encode told was written into")
	room := append(u.encode(), 7, 7, 7, 7)
	given := room[:len(room)-4]
	c, e := Decode(given)
	if e != api.OK || !bytes.Equal(room, append(u.encode(), 7, 7, 7, 7)) {
		t.Fatal("Decode wrote into what it was given:", e, room)
	}
	spoil(room)
	hold(t, c, u, "what Decode was given was written into")
	d, _ := Decode(u.encode())
	c.Take(1)
	hold(t, d, u, "two that were read share")
}

func spoil(b []byte) {
	for i := range b {
		b[i] = ^b[i]
	}
}

// walk makes many calls, chosen by a seed, of blocks of so many units, and holds each against units; and tells the bytes behind them all.
func walk(t *testing.T, seed uint32, many, calls int) []byte {
	t.Helper()
	b, u := made(t, many), free(many)
	chosen := func(below int) int {
		seed = seed*1664525 + 1013904223
		return int(seed>>8) % below
	}
	for i := range calls {
		switch chosen(6) {
		case 0, 1:
			n := chosen(many/4+2) - 1
			wantAt, wantE := u.take(n)
			if at, e := b.Take(n); at != wantAt || e != wantE {
				t.Fatal(seed, i, "take:", n, at, e)
			}
		case 2:
			at, n := chosen(many+4)-2, chosen(6)-1
			want := u.claim(at, n)
			if e := b.Claim(at, n); e != want {
				t.Fatal(seed, i, "claim:", at, n, e)
			}
		case 3, 4:
			at := chosen(many+2) - 1
			want := u.free(at)
			if e := b.Free(at); e != want {
				t.Fatal(seed, i, "free:", at, e)
			}
		case 5:
			c, e := Decode(b.Encode())
			if e != api.OK {
				t.Fatal(seed, i, "decode:", e)
			}
			if b = c; chosen(2) == 0 {
				b = c.Copy()
			}
		}
		hold(t, b, u, seed, i)
	}
	return b.Encode()
}

func TestP10_3_Walks(t *testing.T) {
	for seed := range uint32(30) {
		first := walk(t, seed, 1+int(seed)%13, 300)
		if second := walk(t, seed, 1+int(seed)%13, 300); !bytes.Equal(first, second) {
			t.Fatal("the same calls, and other blocks:", seed)
		}
	}
	walk(t, 99, 70, 400)
}

// Whatever is taken, one behind the other, no unit is in two blocks; and it is all free again, once it is freed.
func TestP10_3_TakenOnce(t *testing.T) {
	for _, u := range ways() {
		b, owner := as(t, u), slices.Clone(u)
		for n := len(u); n >= 1; n-- {
			for b.Largest() >= n {
				at, e := b.Take(n)
				if e != api.OK || !owner.empty(at, n) {
					t.Fatal("taken twice, or not, though there is room:", u, n, at, e)
				}
				owner.put(at, n, at)
			}
			if at, e := b.Take(n); at != 0 || e != api.ErrBlocksFull {
				t.Fatal("no room in one piece:", u, n, at, e)
			}
		}
		if b.Used() != len(u) || b.Largest() != 0 {
			t.Fatal("not all taken:", u)
		}
		for _, p := range told(b) {
			if e := b.Free(p[0]); e != api.OK {
				t.Fatal(u, p, e)
			}
		}
		if at, e := b.Take(len(u)); len(u) > 0 && (at != 0 || e != api.OK) {
			t.Fatal("all is free, and not to be taken:", u, at, e)
		}
	}
}

func TestP10_3_DecodeOfEncode(t *testing.T) {
	for _, u := range ways() {
		b := as(t, u)
		c, e := Decode(b.Encode())
		if e != api.OK {
			t.Fatal(u, e)
		}
		hold(t, c, u, "read again")
		// And it goes on as the first one does.
		for _, n := range []int{2, 1, 3, 1, 1} {
			at, e := b.Take(n)
			if at2, e2 := c.Take(n); at != at2 || e != e2 {
				t.Fatal(u, n, at, e, at2, e2)
			}
		}
		if !bytes.Equal(b.Encode(), c.Encode()) {
			t.Fatal("they part:", u)
		}
	}
}
