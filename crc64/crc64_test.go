package crc64

import (
	stdcrc "hash/crc64"
	"slices"
	"testing"

	"winepress/samples"
)

// slow is the checksum as the document words it, bit by bit.
func slow(b []byte) uint64 {
	register := ^uint64(0)
	for _, v := range b {
		for i := range 8 {
			x := register&1 ^ uint64(v>>i&1)
			register >>= 1
			if x == 1 {
				register ^= 0xC96C5795D7870F42
			}
		}
	}
	return ^register
}

func TestSumP2_1(t *testing.T) {
	if got := Sum([]byte("123456789")); got != 0x995DC9BBDF1939FA {
		t.Errorf("example: %016X", got)
	}
	if Sum(nil) != 0 || Sum([]byte{}) != 0 {
		t.Error("no bytes")
	}
	for n := range 70 {
		for _, b := range samples.Kinds(n) {
			if got, want := Sum(b), slow(b); got != want {
				t.Errorf("%v: %016X, not %016X", b, got, want)
			}
		}
	}
	table := stdcrc.MakeTable(stdcrc.ECMA)
	for _, b := range samples.Kinds(100003) {
		if got, want := Sum(b), stdcrc.Checksum(b, table); got != want {
			t.Errorf("long: %016X, not %016X", got, want)
		}
	}
}

func TestOnP2_1(t *testing.T) {
	if On(0x123456789ABCDEF0, nil) != 0x123456789ABCDEF0 {
		t.Error("no more bytes must leave the checksum as it is")
	}
	table := stdcrc.MakeTable(stdcrc.ECMA)
	for _, sum := range []uint64{0, 1, 1 << 63, ^uint64(0), 0x995DC9BBDF1939FA} {
		b := samples.Noise(5, 23)
		if got, want := On(sum, b), stdcrc.Update(sum, table, b); got != want {
			t.Errorf("On(%016X): %016X, not %016X", sum, got, want)
		}
	}
}

func TestTwoPartsP2_2(t *testing.T) {
	b := samples.Copies(6, 41)
	for cut := range len(b) + 1 {
		if On(Sum(b[:cut]), b[cut:]) != Sum(b) {
			t.Errorf("cut at %d", cut)
		}
	}
}

func TestBurstP2_2(t *testing.T) {
	b := samples.Noise(7, 40)
	sum := Sum(b)
	for i, v := range samples.Numbers(8, 3000, 1<<30) {
		burst := uint64(v)<<34 ^ uint64(v)<<17 ^ uint64(i) | 1
		c := slices.Clone(b)
		from := v % (len(b)*8 - 64)
		for i := range 64 {
			if burst>>i&1 == 1 {
				c[(from+i)/8] ^= 1 << ((from + i) % 8)
			}
		}
		if Sum(c) == sum {
			t.Errorf("burst %016X at bit %d is not noticed", burst, from)
		}
	}
}

func TestArgumentsStayP0(t *testing.T) {
	b := samples.Noise(9, 33)
	c := slices.Clone(b)
	first := Sum(b)
	if !slices.Equal(b, c) || Sum(b) != first {
		t.Error("the bytes changed, or a second call answered otherwise")
	}
}
