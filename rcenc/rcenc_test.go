package rcenc

import (
	"bytes"
	"math/big"
	"slices"
	"testing"

	"winepress/samples"
)

// slow is a coder as the document words it, with a Low of any size.
type slow struct {
	low    *big.Int
	span   uint64
	shifts int
}

func newSlow() *slow {
	return &slow{low: new(big.Int), span: 1<<32 - 1}
}

func (s *slow) add(n uint64) {
	s.low.Add(s.low, new(big.Int).SetUint64(n))
}

func (s *slow) shift() {
	for s.span < 1<<24 {
		s.span *= 256
		s.low.Lsh(s.low, 8)
		s.shifts++
	}
}

func (s *slow) bit(chance uint16, bit int) (int, uint16) {
	p := uint64(chance)
	if p < 1 || p > 2047 {
		p = 1024
	}
	bound := s.span / 2048 * p
	if bit == 0 {
		s.span = bound
		p += (2048 - p) / 32
	} else {
		bit = 1
		s.add(bound)
		s.span -= bound
		p -= p / 32
	}
	s.shift()
	return bit, uint16(p)
}

func (s *slow) plain(v uint32, n int) {
	for i := min(n, 32) - 1; i >= 0; i-- {
		s.span /= 2
		if v>>i&1 == 1 {
			s.add(s.span)
		}
		s.shift()
	}
}

func (s *slow) bytes() []byte {
	return append([]byte{0}, s.low.FillBytes(make([]byte, s.shifts+4))...)
}

// fits reports whether Low and Range together are within what P5.2 says.
func (s *slow) fits() bool {
	top := new(big.Int).Lsh(big.NewInt(1), uint(32+8*s.shifts))
	return new(big.Int).Add(s.low, new(big.Int).SetUint64(s.span)).Cmp(top) <= 0
}

func TestExamplesP5_1(t *testing.T) {
	e := New()
	if !slices.Equal(e.Bytes(), []byte{0, 0, 0, 0, 0}) {
		t.Errorf("no bits: %v", e.Bytes())
	}
	if e.Plain(1, 1) != 1 || !slices.Equal(e.Bytes(), []byte{0, 127, 255, 255, 255}) {
		t.Errorf("a plain bit 1: %v", e.Bytes())
	}
}

func TestProbabilitiesP5_1(t *testing.T) {
	for chance := range 1 << 16 {
		for _, bit := range []int{0, 1, -1, 2, 1 << 40} {
			e, s := New(), newSlow()
			gotBit, got := e.Bit(uint16(chance), bit)
			wantBit, want := s.bit(uint16(chance), bit)
			if gotBit != wantBit || got != want || !slices.Equal(e.Bytes(), s.bytes()) {
				t.Fatalf("Bit(%d, %d): %d, %d, %v", chance, bit, gotBit, got, e.Bytes())
			}
		}
	}
}

func TestManyBitsP5_1(t *testing.T) {
	for seed := range 60 {
		e, s := New(), newSlow()
		for i, v := range samples.Numbers(seed, 400, 1<<30) {
			chance, bit := uint16(v>>8&2047), v&1
			switch seed % 4 {
			case 1: // unlikely bits: the range shrinks by several bytes at once
				chance = uint16(bit*2046 + 1)
			case 2: // a Low of ones: long carries
				bit = 1
			}
			if v>>3&7 == 0 {
				n := v >> 4 & 63
				mask := uint32(uint64(1)<<min(n, 32) - 1)
				if got := e.Plain(uint32(v), n); got != uint32(v)&mask {
					t.Fatalf("Plain(%d, %d): %d", v, n, got)
				}
				s.plain(uint32(v), n)
			} else {
				gotBit, got := e.Bit(chance, bit)
				if wantBit, want := s.bit(chance, bit); gotBit != wantBit || got != want {
					t.Fatalf("Bit(%d, %d): %d, %d", chance, bit, gotBit, got)
				}
			}
			if !slices.Equal(e.Bytes(), s.bytes()) {
				t.Fatalf("seed %d, step %d: %v, not %v", seed, i, e.Bytes(), s.bytes())
			}
			if !s.fits() || e.Bytes()[0] != 0 { // P5.2
				t.Fatalf("seed %d, step %d: Low outgrows its bytes", seed, i)
			}
		}
	}
}

// A carry that goes through many bytes of 255: bits are chosen so that Low stays just below 2^31 (times the multiplications), until the last ones take it above.
func TestLongCarryP5_1(t *testing.T) {
	e, s := New(), newSlow()
	code := func(bit int) {
		e.Bit(700, bit)
		s.bit(700, bit)
	}
	for s.shifts < 50 {
		after := new(big.Int).Add(s.low, new(big.Int).SetUint64(s.span/2048*700))
		edge := new(big.Int).Lsh(big.NewInt(1), uint(31+8*s.shifts))
		if after.Cmp(edge) < 0 {
			code(1)
		} else {
			code(0)
		}
	}
	if !bytes.HasPrefix(e.Bytes(), append([]byte{0, 127}, bytes.Repeat([]byte{255}, 45)...)) {
		t.Fatalf("no bytes of 255 to carry through: %v", e.Bytes())
	}
	for range 30 {
		code(1)
	}
	if !bytes.HasPrefix(e.Bytes(), append([]byte{0, 128}, make([]byte, 45)...)) || !slices.Equal(e.Bytes(), s.bytes()) {
		t.Errorf("%v, not %v", e.Bytes(), s.bytes())
	}
}

// A Range of exactly 2^24 is large enough: no multiplication follows the second bit.
func TestEdgeOfRangeP5_1(t *testing.T) {
	e, s := New(), newSlow()
	for _, c := range [][2]int{{2032, 1}, {1024, 0}} {
		e.Bit(uint16(c[0]), c[1])
		s.bit(uint16(c[0]), c[1])
	}
	if s.span != 1<<24 || s.shifts != 0 || len(e.Bytes()) != 5 {
		t.Fatalf("Range %d after %d multiplications: %v", s.span, s.shifts, e.Bytes())
	}
	e.Plain(5, 3)
	s.plain(5, 3)
	if !slices.Equal(e.Bytes(), s.bytes()) {
		t.Errorf("%v, not %v", e.Bytes(), s.bytes())
	}
}

func TestPlainEdgesP5_1(t *testing.T) {
	for _, n := range []int{-1 << 63, -1, 0} {
		e := New()
		if e.Plain(0xFFFFFFFF, n) != 0 || !slices.Equal(e.Bytes(), make([]byte, 5)) {
			t.Errorf("Plain(.., %d) coded something", n)
		}
	}
	want := newSlow()
	want.plain(0xDEADBEEF, 32)
	for _, n := range []int{32, 33, 1<<63 - 1} {
		e := New()
		if got := e.Plain(0xDEADBEEF, n); got != 0xDEADBEEF || !slices.Equal(e.Bytes(), want.bytes()) {
			t.Errorf("Plain(.., %d): %08X", n, got)
		}
	}
}

func TestNilP5_1(t *testing.T) {
	var e *Enc
	for _, c := range []struct {
		chance uint16
		bit    int
		want   uint16
	}{{1024, 0, 1056}, {1024, 1, 992}, {0, 7, 992}, {2048, 0, 1056}, {2047, 0, 2047}, {1, 1, 1}} {
		if bit, chance := e.Bit(c.chance, c.bit); bit != 0 || chance != c.want {
			t.Errorf("nil.Bit(%d, %d): %d, %d", c.chance, c.bit, bit, chance)
		}
	}
	if e.Plain(0xFFFFFFFF, 32) != 0 || len(e.Bytes()) != 0 {
		t.Error("a nil coder codes nothing")
	}
}

// Bytes is new memory each time, and more may be coded after it.
func TestBytesIsNewP0(t *testing.T) {
	e, s := New(), newSlow()
	for i := range 100 {
		e.Bit(1000, i&1)
		s.bit(1000, i&1)
		clear(e.Bytes())
		if !slices.Equal(e.Bytes(), s.bytes()) {
			t.Fatalf("step %d: the coder's own bytes were handed out", i)
		}
	}
}
