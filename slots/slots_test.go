package slots

import (
	"bytes"
	"math"
	"slices"
	"testing"

	"ecdysis/api"
)

// told is slots as the chapter has them, told once more: of each slot how often it was made, and of each good handle its number.
type told struct {
	made []int
	good map[api.Handle]uint64
	gone map[api.Handle]bool
}

func fresh(many int) *told {
	return &told{made: make([]int, many), good: map[api.Handle]uint64{}, gone: map[api.Handle]bool{}}
}

func (m *told) has(slot int) bool {
	return slot >= 0 && slot < len(m.made) && m.is(api.Handle{Slot: slot, Gen: m.made[slot]})
}

func (m *told) is(h api.Handle) bool {
	_, is := m.good[h]
	return is
}

func (m *told) make(v uint64) (api.Handle, api.Errno) {
	i := slices.IndexFunc(m.made, func(n int) bool { return n < 65535 })
	for i >= 0 && i < len(m.made) && (m.has(i) || m.made[i] == 65535) {
		i++
	}
	if i < 0 || i == len(m.made) {
		return api.Handle{}, 110
	}
	m.made[i]++
	h := api.Handle{Slot: i, Gen: m.made[i]}
	m.good[h] = v
	return h, 0
}

func (m *told) swing(h api.Handle, v uint64) api.Errno {
	if !m.is(h) {
		return 111
	}
	m.good[h] = v
	return 0
}

func (m *told) free(h api.Handle) api.Errno {
	if !m.is(h) {
		return 111
	}
	delete(m.good, h)
	m.gone[h] = true
	return 0
}

func (m *told) encode() []byte {
	out := []byte{byte(len(m.made)), byte(len(m.made) >> 8)}
	for i, n := range m.made {
		out = append(out, byte(n), byte(n>>8))
		if !m.has(i) {
			out = append(out, 0)
			continue
		}
		out = append(out, 1)
		for at := range 8 {
			out = append(out, byte(m.good[api.Handle{Slot: i, Gen: n}]>>(8*at)))
		}
	}
	return out
}

// read is what these bytes tell, and whether they are any slots'.
func read(b []byte) (*told, bool) {
	if len(b) < 2 || int(b[0])+256*int(b[1]) > 256 {
		return nil, false
	}
	m, rest := fresh(int(b[0])+256*int(b[1])), b[2:]
	for i := range m.made {
		if len(rest) < 3 {
			return nil, false
		}
		m.made[i] = int(rest[0]) + 256*int(rest[1])
		used := rest[2]
		rest = rest[3:]
		switch {
		case used == 0:
			continue
		case used > 1, m.made[i] == 0, len(rest) < 8:
			return nil, false
		}
		v := uint64(0)
		for at := range 8 {
			v += uint64(rest[at]) << (8 * at)
		}
		m.good[api.Handle{Slot: i, Gen: m.made[i]}] = v
		rest = rest[8:]
	}
	return m, len(rest) == 0
}

// wild is handles that may be good or not, around what m has, and far from it.
func (m *told) wild() []api.Handle {
	out := []api.Handle{{}, {Slot: math.MinInt, Gen: 1}, {Slot: math.MaxInt, Gen: 1}, {Slot: -1, Gen: 1}, {Slot: len(m.made), Gen: 1}, {Gen: math.MinInt}, {Gen: math.MaxInt}, {Gen: 65536}}
	for i, n := range m.made {
		for d := -2; d <= 2; d++ {
			out = append(out, api.Handle{Slot: i, Gen: n + d})
		}
		out = append(out, api.Handle{Slot: i, Gen: n + 65536}, api.Handle{Slot: i - 65536, Gen: n}, api.Handle{Slot: i + len(m.made), Gen: n})
	}
	return out
}

// hold asks all that can be asked of s, against m; nothing of it changes s.
func hold(t *testing.T, s *Slots, m *told) {
	t.Helper()
	if s.Len() != len(m.made) || s.Used() != len(m.good) {
		t.Fatal("Len, Used:", s.Len(), s.Used(), m)
	}
	if got := s.Encode(); !bytes.Equal(got, m.encode()) {
		t.Fatalf("Encode: %x, and not %x", got, m.encode())
	}
	for slot := -2; slot < len(m.made)+2; slot++ {
		h, is := s.At(slot)
		want := api.Handle{}
		if m.has(slot) {
			want = api.Handle{Slot: slot, Gen: m.made[slot]}
		}
		if is != m.has(slot) || h != want {
			t.Fatal("At:", slot, h, is)
		}
	}
	for _, h := range m.wild() {
		holdHandle(t, s, m, h)
	}
	for h := range m.gone {
		holdHandle(t, s, m, h)
	}
}

func holdHandle(t *testing.T, s *Slots, m *told, h api.Handle) {
	t.Helper()
	v, e := s.Get(h)
	if m.is(h) {
		if v != m.good[h] || e != 0 {
			t.Fatal("Get:", h, v, e)
		}
		return
	}
	// Beside an error nothing changes, so these may be called here.
	if v != 0 || e != 111 || s.Swing(h, 77) != 111 || s.Free(h) != 111 {
		t.Fatal("not refused:", h, v, e)
	}
}

func open(t *testing.T, b []byte) (*Slots, *told) {
	t.Helper()
	s, e := Decode(b)
	m, is := read(b)
	if e != 0 || !is || s == nil {
		t.Fatalf("Decode of %x: %v %v", b, e, is)
	}
	return s, m
}

func begin(t *testing.T, many int) (*Slots, *told) {
	t.Helper()
	s, e := New(many)
	if e != 0 || s == nil {
		t.Fatal("New:", many, e)
	}
	return s, fresh(many)
}

func TestP11_1_New(t *testing.T) {
	for many := -3; many <= 300; many++ {
		if many < 0 || many > 256 {
			if s, e := New(many); s != nil || e != 1 {
				t.Error("not refused:", many, e)
			}
			continue
		}
		s, m := begin(t, many)
		hold(t, s, m)
	}
	for _, many := range []int{math.MinInt, math.MinInt + 1, math.MaxInt, 65536, 1 << 40} {
		if s, e := New(many); s != nil || e != 1 {
			t.Error("not refused:", many, e)
		}
	}
}

func TestP11_1_Example(t *testing.T) {
	s, _ := begin(t, 1)
	first, e := s.Make(5)
	if first != (api.Handle{Gen: 1}) || e != 0 {
		t.Fatal("Make:", first, e)
	}
	if h, e := s.Make(6); h != (api.Handle{}) || e != 110 {
		t.Error("Make:", h, e)
	}
	if e := s.Free(first); e != 0 {
		t.Error("Free:", e)
	}
	if h, e := s.Make(7); h != (api.Handle{Gen: 2}) || e != 0 {
		t.Error("Make:", h, e)
	}
	if v, e := s.Get(first); v != 0 || e != 111 {
		t.Error("Get:", v, e)
	}
}

// All that four to six calls can do to none, one, two or three slots, one behind the other.
func TestP11_1_EveryCall(t *testing.T) {
	for many, deep := range []int{3, 6, 5, 5} {
		var walk func(s *Slots, m *told, left int)
		walk = func(s *Slots, m *told, left int) {
			hold(t, s, m)
			if left == 0 {
				return
			}
			for call := range 1 + 2*many {
				// A copy, as the same slots go another way next.
				s, m := s.Copy(), m.copy()
				step(t, s, m, call, uint64(left)<<60+uint64(call))
				walk(s, m, left-1)
			}
		}
		s, m := begin(t, many)
		walk(s, m, deep)
	}
}

// step is one call of both: 0 makes one, 1 and 2 free and swing what is or was last in slot 0, and so on.
func step(t *testing.T, s *Slots, m *told, call int, v uint64) {
	t.Helper()
	if call == 0 {
		h, e := s.Make(v)
		if want, f := m.make(v); h != want || e != f {
			t.Fatal("Make:", h, e, "and not", want, f)
		}
		return
	}
	h := api.Handle{Slot: (call - 1) / 2}
	h.Gen = m.made[h.Slot]
	if call%2 == 1 {
		if e, want := s.Free(h), m.free(h); e != want {
			t.Fatal("Free:", h, e, want)
		}
		return
	}
	if e, want := s.Swing(h, v), m.swing(h, v); e != want {
		t.Fatal("Swing:", h, e, want)
	}
}

func (m *told) copy() *told {
	c := fresh(len(m.made))
	copy(c.made, m.made)
	for h, v := range m.good {
		c.good[h] = v
	}
	for h := range m.gone {
		c.gone[h] = true
	}
	return c
}

// chance is numbers that are the same at each start.
func chance(seed uint64) func(n int) int {
	return func(n int) int {
		seed = seed*6364136223846793005 + 1442695040888963407
		return int(seed>>33) % n
	}
}

// wander makes, frees and swings by chance, more of this or of that for a while.
func wander(t *testing.T, s *Slots, m *told, next func(n int) int, calls int) {
	t.Helper()
	lean := 0
	for i := range calls {
		if i%50 == 0 {
			lean = next(10)
		}
		switch {
		case next(10) < lean || s.Len() == 0:
			step(t, s, m, 0, uint64(next(1<<30))<<40+uint64(next(1<<30)))
		default:
			step(t, s, m, 1+next(2*s.Len()), uint64(next(1<<30))<<40)
		}
		if i%20 == 0 {
			hold(t, s, m)
		}
	}
	hold(t, s, m)
}

func TestP11_1_Walks(t *testing.T) {
	for seed, many := range []int{0, 1, 2, 3, 7, 17, 64, 255, 256} {
		s, m := begin(t, many)
		wander(t, s, m, chance(uint64(seed)), 1200)
	}
}

func TestP11_1_MakeTakesTheFirstFreeSlot(t *testing.T) {
	s, m := begin(t, 256)
	for i := range 256 {
		if h, e := s.Make(uint64(i)); h != (api.Handle{Slot: i, Gen: 1}) || e != 0 {
			t.Fatal("Make:", i, h, e)
		}
		m.make(uint64(i))
	}
	if h, e := s.Make(1); h != (api.Handle{}) || e != 110 {
		t.Error("Make of 257:", h, e)
	}
	hold(t, s, m)
	for _, i := range []int{200, 255, 0, 100} {
		step(t, s, m, 1+2*i, 0)
	}
	for _, i := range []int{0, 100, 200, 255} {
		if h, e := s.Make(math.MaxUint64); h != (api.Handle{Slot: i, Gen: 2}) || e != 0 {
			t.Error("Make:", i, h, e)
		}
		m.make(math.MaxUint64)
	}
	hold(t, s, m)
}

func TestP11_1_TheLastGeneration(t *testing.T) {
	s, m := begin(t, 2)
	for gen := 1; gen <= 65535; gen++ {
		h, e := s.Make(uint64(gen))
		if h != (api.Handle{Gen: gen}) || e != 0 {
			t.Fatal("Make:", gen, h, e)
		}
		if e := s.Free(h); e != 0 {
			t.Fatal("Free:", gen, e)
		}
	}
	m.made[0] = 65535
	hold(t, s, m)
	// The slot is used no more; the next one is, as long as it may be.
	if h, e := s.Make(8); h != (api.Handle{Slot: 1, Gen: 1}) || e != 0 {
		t.Error("Make:", h, e)
	}
	m.make(8)
	hold(t, s, m)
	if h, e := s.Make(9); h != (api.Handle{}) || e != 110 {
		t.Error("Make:", h, e)
	}
	hold(t, s, m)
}

func TestP11_1_AHandleOfTheLastGenerationIsGood(t *testing.T) {
	s, m := open(t, []byte{3, 0, 0xfe, 0xff, 0, 0xff, 0xff, 1, 9, 0, 0, 0, 0, 0, 0, 0, 0xff, 0xff, 0})
	last := api.Handle{Slot: 1, Gen: 65535}
	if v, e := s.Get(last); v != 9 || e != 0 {
		t.Error("Get:", v, e)
	}
	for range 2 {
		step(t, s, m, 0, 3)
		hold(t, s, m)
	}
	step(t, s, m, 4, 10)
	hold(t, s, m)
	for range 2 {
		step(t, s, m, 3, 0)
		step(t, s, m, 1, 0)
		step(t, s, m, 0, 3)
		hold(t, s, m)
	}
}

func TestP11_1_AtFarOff(t *testing.T) {
	s, _ := begin(t, 3)
	s.Make(1)
	for _, slot := range []int{math.MinInt, math.MaxInt, -1, 3, 4, 256, 65536, 1 << 32, -65536} {
		if h, is := s.At(slot); is || h != (api.Handle{}) {
			t.Error("At:", slot, h, is)
		}
	}
}

func TestP11_1_CopiesAreTheirOwn(t *testing.T) {
	next := chance(3)
	for _, many := range []int{0, 1, 5, 40} {
		s, m := begin(t, many)
		wander(t, s, m, next, 100)
		c, d := s.Copy(), m.copy()
		hold(t, c, d)
		wander(t, c, d, next, 200)
		hold(t, s, m)
		wander(t, s, m, next, 200)
		hold(t, c, d)
	}
}

func edges() []int {
	return []int{math.MinInt, -1 << 48, -1 << 32, -65537, -65536, -65535, -2, -1, 0, 1, 2, 255, 256, 257, 32767, 32768, 65534, 65535, 65536, 65537, 1 << 31, 1 << 32, 1<<32 + 1, 1 << 47, 1 << 48, 1<<48 + 1, math.MaxInt}
}

func TestP11_2_PackOfAnyHandle(t *testing.T) {
	seen := map[uint64]api.Handle{}
	for _, slot := range edges() {
		for _, gen := range edges() {
			h, want := api.Handle{Slot: slot, Gen: gen}, uint64(0)
			if slot >= 0 && slot <= 65535 && gen >= 1 && gen <= 65535 {
				want = uint64(slot)<<16 | uint64(gen)
			}
			if n := Pack(h); n != want {
				t.Error("Pack:", h, n, want)
			}
			if want == 0 {
				continue
			}
			if other, is := seen[want]; is {
				t.Error("one number:", h, other)
			}
			seen[want] = h
			if got := Unpack(want); got != h {
				t.Error("Unpack:", h, got)
			}
		}
	}
}

func holdUnpack(t *testing.T, n uint64) {
	t.Helper()
	want := api.Handle{}
	if n < 1<<32 && n&0xffff != 0 {
		want = api.Handle{Slot: int(n >> 16), Gen: int(n & 0xffff)}
	}
	if h := Unpack(n); h != want {
		t.Fatal("Unpack:", n, h, want)
	}
	if want != (api.Handle{}) && Pack(want) != n {
		t.Fatal("Pack:", want, Pack(want))
	}
}

func TestP11_2_UnpackOfAnyNumber(t *testing.T) {
	for n := range uint64(1 << 18) {
		holdUnpack(t, n)
		holdUnpack(t, n*65521)
		holdUnpack(t, 1<<32-1-n)
		holdUnpack(t, 1<<32+n)
		holdUnpack(t, 1<<63+n)
		holdUnpack(t, math.MaxUint64-n)
	}
	for i := range 64 {
		for j := range 64 {
			holdUnpack(t, 1<<i|1<<j)
			holdUnpack(t, 1<<i-1<<j)
		}
	}
}

func TestP11_3_Bytes(t *testing.T) {
	s, _ := begin(t, 3)
	a, _ := s.Make(0x0102030405060708)
	b, _ := s.Make(6)
	s.Free(b)
	want := []byte{3, 0, 1, 0, 1, 8, 7, 6, 5, 4, 3, 2, 1, 1, 0, 0, 0, 0, 0}
	if got := s.Encode(); !bytes.Equal(got, want) {
		t.Errorf("%x", got)
	}
	// What a slot had that is free now is nowhere.
	s.Free(a)
	if got := s.Encode(); !bytes.Equal(got, []byte{3, 0, 1, 0, 0, 1, 0, 0, 0, 0, 0}) {
		t.Errorf("%x", got)
	}
	none, _ := begin(t, 0)
	if got := none.Encode(); !bytes.Equal(got, []byte{0, 0}) {
		t.Errorf("%x", got)
	}
	many, _ := begin(t, 256)
	if got := many.Encode(); !bytes.Equal(got, append([]byte{0, 1}, make([]byte, 3*256)...)) {
		t.Errorf("%x", got)
	}
}

// holdDecode holds Decode of any bytes against the chapter's words.
func holdDecode(t *testing.T, b []byte) {
	t.Helper()
	given := bytes.Clone(b)
	s, e := Decode(given)
	if !bytes.Equal(given, b) {
		t.Fatalf("Decode has changed %x", b)
	}
	m, is := read(b)
	if !is {
		if s != nil || e != 112 {
			t.Fatalf("not refused: %x: %v", b, e)
		}
		return
	}
	if s == nil || e != 0 {
		t.Fatalf("refused: %x: %v", b, e)
	}
	// What was handed in is not kept.
	clear(given)
	hold(t, s, m)
	if !bytes.Equal(s.Encode(), b) {
		t.Fatalf("Encode: %x, and not %x", s.Encode(), b)
	}
}

func samples(t *testing.T) [][]byte {
	t.Helper()
	out := [][]byte{{0, 0}, {1, 0, 0, 0, 0}, {1, 0, 1, 0, 0}, {1, 0, 0xff, 0xff, 1, 1, 2, 3, 4, 5, 6, 7, 8}, {2, 0, 0xff, 0xff, 0, 0, 1, 1, 0, 0, 0, 0, 0, 0, 0, 0}}
	for i, many := range []int{1, 2, 3, 5, 9} {
		s, m := begin(t, many)
		wander(t, s, m, chance(uint64(20+i)), 75)
		out = append(out, s.Encode())
	}
	return out
}

func TestP11_3_DecodeOfAnyBytes(t *testing.T) {
	for _, b := range samples(t) {
		holdDecode(t, b)
		for i := range b {
			holdDecode(t, b[:i])
			for x := range 256 {
				c := bytes.Clone(b)
				c[i] = byte(x)
				holdDecode(t, c)
			}
		}
		for x := range 256 {
			holdDecode(t, append(bytes.Clone(b), byte(x)))
		}
		holdDecode(t, append(bytes.Clone(b), make([]byte, 8)...))
	}
	holdDecode(t, nil)
	for x := range 256 {
		holdDecode(t, []byte{byte(x)})
		for y := range 256 {
			holdDecode(t, []byte{byte(x), byte(y)})
		}
	}
}

func TestP11_3_DecodeOfManySlots(t *testing.T) {
	for _, many := range []int{254, 255, 256, 257, 258, 512, 1024, 65535} {
		free := append([]byte{byte(many), byte(many >> 8)}, make([]byte, 3*many)...)
		holdDecode(t, free)
		used := []byte{byte(many), byte(many >> 8)}
		for i := range many {
			used = append(used, byte(i+1), byte((i+1)>>8), 1, byte(i), 0, 0, 0, 0, 0, 0, 9)
		}
		holdDecode(t, used)
		holdDecode(t, used[:len(used)-1])
		holdDecode(t, append(used, 0))
	}
}

func TestP11_3_DecodeOfRandomBytes(t *testing.T) {
	next := chance(9)
	for range 40000 {
		b := []byte{byte(next(4)), 0}
		for range next(24) {
			b = append(b, []byte{0, 0, 1, 1, 2, 255}[next(6)])
		}
		holdDecode(t, b)
	}
}

func TestP11_3_EncodeIsTheCallersOwn(t *testing.T) {
	s, m := begin(t, 2)
	step(t, s, m, 0, 5)
	b := s.Encode()
	for i := range b {
		b[i] = 255
	}
	_ = append(b, 255)
	hold(t, s, m)
}

func TestP11_4_AFreedHandleIsNeverGoodAgain(t *testing.T) {
	for seed, many := range []int{1, 2, 4, 9} {
		s, m := begin(t, many)
		next := chance(uint64(40 + seed))
		for range 6 {
			wander(t, s, m, next, 150)
			// Through bytes and copies, too.
			c, e := Decode(s.Encode())
			if e != 0 {
				t.Fatal("Decode:", e)
			}
			s = c.Copy()
		}
		if len(m.gone) < 20 {
			t.Error("too few were freed:", many, len(m.gone))
		}
		for h := range m.gone {
			if _, e := s.Get(h); e != 111 {
				t.Error("good again:", h)
			}
		}
	}
}

func TestP11_4_NoTwoGoodOnesHaveOneSlot(t *testing.T) {
	s, m := begin(t, 5)
	seen := map[api.Handle]bool{}
	next := chance(5)
	for range 400 {
		h, e := s.Make(1)
		if e == 0 && seen[h] {
			t.Fatal("once more:", h)
		}
		seen[h] = true
		m.make(1)
		step(t, s, m, 1+2*next(5), 0)
		taken := map[int]bool{}
		for h := range seen {
			if _, e := s.Get(h); e != 0 {
				continue
			}
			if taken[h.Slot] {
				t.Fatal("two of slot", h.Slot)
			}
			taken[h.Slot] = true
		}
		if len(taken) != s.Used() {
			t.Fatal("good ones:", len(taken), s.Used())
		}
	}
}

func TestP11_4_DecodeOfEncodeIsTheSame(t *testing.T) {
	for seed, many := range []int{0, 1, 3, 20, 256} {
		s, m := begin(t, many)
		next := chance(uint64(60 + seed))
		for range 5 {
			wander(t, s, m, next, 60)
			c, d := open(t, s.Encode())
			hold(t, c, m)
			// And they go on as these do.
			wander(t, c, d, chance(7), 60)
			other, n := s.Copy(), m.copy()
			wander(t, other, n, chance(7), 60)
			if !bytes.Equal(c.Encode(), other.Encode()) {
				t.Fatal("they go another way")
			}
		}
	}
}

func TestP11_4_UnpackOfPackIsTheHandle(t *testing.T) {
	for slot := 0; slot < 65536; slot += 13 {
		for _, gen := range []int{1, 2, 255, 256, 32768, 65534, 65535, slot | 1} {
			h := api.Handle{Slot: slot, Gen: gen}
			if n := Pack(h); n == 0 || Unpack(n) != h {
				t.Fatal("Pack, Unpack:", h, n, Unpack(n))
			}
		}
	}
	s, m := begin(t, 256)
	wander(t, s, m, chance(1), 300)
	for h := range m.good {
		if Unpack(Pack(h)) != h {
			t.Error("Unpack:", h)
		}
	}
}

func TestP11_1_TheSameCallsTellTheSame(t *testing.T) {
	a, m := begin(t, 30)
	b, n := begin(t, 30)
	wander(t, a, m, chance(2), 500)
	wander(t, b, n, chance(2), 500)
	if !bytes.Equal(a.Encode(), b.Encode()) {
		t.Error("another end")
	}
}
