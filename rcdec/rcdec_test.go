package rcdec

import (
	"slices"
	"testing"

	"winepress/api"
	"winepress/rcenc"
	"winepress/samples"
)

func mustNew(t *testing.T, b []byte) *Dec {
	t.Helper()
	d, e := New(b)
	if e != api.OK || d == nil {
		t.Fatalf("New(%v): %d", b, e)
	}
	return d
}

func TestNewP6_1(t *testing.T) {
	for _, c := range []struct {
		b    []byte
		want api.Errno
	}{
		{nil, api.ErrTrunc}, {[]byte{0, 0, 0, 0}, api.ErrTrunc}, {[]byte{1, 2, 3, 4}, api.ErrTrunc},
		{[]byte{1, 0, 0, 0, 0}, api.ErrData}, {[]byte{255, 0, 0, 0, 0, 9}, api.ErrData},
	} {
		if d, e := New(c.b); e != c.want || d != nil {
			t.Errorf("New(%v): %v, %d", c.b, d, e)
		}
	}
	mustNew(t, []byte{0, 255, 255, 255, 255})
}

func TestExampleP6_1(t *testing.T) {
	d := mustNew(t, []byte{0, 127, 255, 255, 255})
	if d.Done() || d.Plain(0, 1) != 1 || !d.Done() || d.Out() {
		t.Error("0, 127, 255, 255, 255 must be a plain bit 1, and then Done")
	}
}

// slow is a decoder as the document words it, with numbers that cannot overflow.
type slow struct {
	code, span uint64
	rest       []byte
	out        bool
}

func newSlow(b []byte) *slow {
	s := &slow{span: 1<<32 - 1, rest: b[5:]}
	for _, v := range b[1:5] {
		s.code = s.code*256 + uint64(v)
	}
	return s
}

func (s *slow) shift() {
	for s.span < 1<<24 && !s.out {
		if len(s.rest) == 0 {
			s.out = true
			return
		}
		s.span = s.span * 256 % (1 << 32)
		s.code = (s.code*256 + uint64(s.rest[0])) % (1 << 32)
		s.rest = s.rest[1:]
	}
}

func (s *slow) bit(chance uint16) (int, uint16) {
	p, bit := uint64(chance), 0
	if p < 1 || p > 2047 {
		p = 1024
	}
	if bound := s.span / 2048 * p; !s.out {
		if s.code < bound {
			s.span = bound
		} else {
			bit, s.code, s.span = 1, s.code-bound, s.span-bound
		}
		s.shift()
	}
	if bit == 0 {
		return 0, uint16(p + (2048-p)/32)
	}
	return 1, uint16(p - p/32)
}

func (s *slow) plain(n int) uint32 {
	v := uint64(0)
	for range max(min(n, 32), 0) {
		if s.out {
			return 0
		}
		s.span /= 2
		v *= 2
		if s.code >= s.span {
			v, s.code = v+1, s.code-s.span
		}
		s.shift()
	}
	if s.out {
		return 0
	}
	return uint32(v)
}

// Any bytes, also such as no coder makes, up to their end and beyond it.
func TestAnyBytesP6_1(t *testing.T) {
	ends := 0
	for seed := range 400 {
		b := samples.Noise(seed, 5+seed%40)
		b[0] = 0
		if seed%5 == 0 {
			copy(b[1:], []byte{255, 255, 255, 255, 255})
		}
		d, s := mustNew(t, b), newSlow(b)
		for i, v := range samples.Numbers(seed, 600, 1<<30) {
			if v&7 == 0 {
				n := v>>3&63 - 8
				if got, want := d.Plain(uint32(v), n), s.plain(n); got != want {
					t.Fatalf("seed %d, step %d: Plain(%d): %d, not %d", seed, i, n, got, want)
				}
			} else {
				gotBit, got := d.Bit(uint16(v>>4), v>>20&1)
				if bit, want := s.bit(uint16(v >> 4)); gotBit != bit || got != want {
					t.Fatalf("seed %d, step %d: Bit: %d, %d, not %d, %d", seed, i, gotBit, got, bit, want)
				}
			}
			if d.Out() != s.out || d.Done() != (!s.out && len(s.rest) == 0 && s.code == 0) {
				t.Fatalf("seed %d, step %d: Out %v, Done %v", seed, i, d.Out(), d.Done())
			}
		}
		if d.Out() {
			ends++
		}
	}
	if ends < 300 {
		t.Errorf("only %d came to their end", ends)
	}
}

func TestOutOfBytesP6_2(t *testing.T) {
	d := mustNew(t, []byte{0, 255, 255, 255, 255})
	if d.Out() || d.Done() {
		t.Error("nothing was read yet")
	}
	if got := d.Plain(0, 9); got != 0 || !d.Out() {
		t.Errorf("it runs out meanwhile: %d", got)
	}
	if bit, chance := d.Bit(2000, 1); bit != 0 || chance != 2001 || !d.Out() || d.Done() {
		t.Errorf("out of bytes: %d, %d", bit, chance)
	}
	if bit, chance := d.Bit(0, 1); bit != 0 || chance != 1056 {
		t.Errorf("out of bytes: %d, %d", bit, chance)
	}
	if d.Plain(5, 3) != 0 {
		t.Error("out of bytes: plain bits are 0")
	}
	// The bit with which the bytes run out is still the one that they say.
	last := mustNew(t, []byte{0, 255, 255, 255, 255})
	last.Plain(0, 7)
	if bit, _ := last.Bit(1024, 0); bit != 1 || last.Out() {
		t.Error("the last bit within the bytes")
	}
	if bit, _ := last.Bit(1024, 0); bit != 1 || !last.Out() {
		t.Error("the bit with which the bytes run out")
	}
}

// A Range of exactly 2^24 is large enough: no byte is needed after the second bit.
func TestEdgeOfRangeP6_1(t *testing.T) {
	e := rcenc.New()
	e.Bit(2032, 1)
	e.Bit(1024, 0)
	d := mustNew(t, e.Bytes())
	one, _ := d.Bit(2032, 0)
	two, _ := d.Bit(1024, 0)
	if one != 1 || two != 0 || d.Out() || !d.Done() {
		t.Errorf("%d, %d, out %v, done %v", one, two, d.Out(), d.Done())
	}
}

func TestNotDoneP6_2(t *testing.T) {
	if !mustNew(t, []byte{0, 0, 0, 0, 0}).Done() {
		t.Error("no bits: done")
	}
	if mustNew(t, []byte{0, 0, 0, 0, 0, 0}).Done() {
		t.Error("a byte is left")
	}
	if mustNew(t, []byte{0, 0, 0, 0, 1}).Done() {
		t.Error("Code is not 0")
	}
}

func TestNilP6_2(t *testing.T) {
	var d *Dec
	if bit, chance := d.Bit(1024, 1); bit != 0 || chance != 1056 {
		t.Errorf("nil.Bit: %d, %d", bit, chance)
	}
	if d.Plain(7, 3) != 0 || !d.Out() || d.Done() {
		t.Error("a nil decoder is out of bytes, and not done")
	}
}

func TestThereAndBackP6_3(t *testing.T) {
	for seed := range 100 {
		steps := samples.Numbers(seed, 500, 1<<30)
		e := rcenc.New()
		codes := func(chance uint16, f func(uint16, int) (int, uint16), p func(uint32, int) uint32, i int) (int, uint16, uint32) {
			v := steps[i]
			bit, after := f(chance, v&1)
			return bit, after, p(uint32(v), v>>5%36-2)
		}
		type answer struct {
			bit   int
			after uint16
			plain uint32
		}
		var want []answer
		chance := uint16(seed * 20)
		for i := range steps {
			bit, after, plain := codes(chance, e.Bit, e.Plain, i)
			want = append(want, answer{bit, after, plain})
			chance = after
		}
		d := mustNew(t, e.Bytes())
		chance = uint16(seed * 20)
		for i := range steps {
			bit, after, plain := codes(chance, d.Bit, d.Plain, i)
			if (answer{bit, after, plain}) != want[i] {
				t.Fatalf("seed %d, step %d: %d, %d, %d, not %v", seed, i, bit, after, plain, want[i])
			}
			chance = after
		}
		if !d.Done() || d.Out() {
			t.Errorf("seed %d: not done", seed)
		}
	}
}

// The bytes are not kept, and not changed.
func TestNotKeptP0(t *testing.T) {
	e := rcenc.New()
	e.Plain(0xDEADBEEF, 32)
	b := e.Bytes()
	c := slices.Clone(b)
	d := mustNew(t, b)
	clear(b)
	if d.Plain(0, 32) != 0xDEADBEEF {
		t.Error("the bytes were kept")
	}
	d = mustNew(t, c)
	d.Plain(0, 32)
	if !slices.Equal(c, e.Bytes()) {
		t.Error("the bytes changed")
	}
}
