package crc32

import (
	stdcrc "hash/crc32"
	"slices"
	"testing"

	"winepress/samples"
)

// slow is the checksum as the document words it, bit by bit.
func slow(b []byte) uint32 {
	register := ^uint32(0)
	for _, v := range b {
		for i := range 8 {
			x := register&1 ^ uint32(v>>i&1)
			register >>= 1
			if x == 1 {
				register ^= 0xEDB88320
			}
		}
	}
	return ^register
}

func TestSumP1_1(t *testing.T) {
	if got := Sum([]byte("123456789")); got != 0xCBF43926 {
		t.Errorf("example: %08X", got)
	}
	if Sum(nil) != 0 || Sum([]byte{}) != 0 {
		t.Error("no bytes")
	}
	for n := range 70 {
		for _, b := range samples.Kinds(n) {
			if got, want := Sum(b), slow(b); got != want {
				t.Errorf("%v: %08X, not %08X", b, got, want)
			}
		}
	}
	for _, b := range samples.Kinds(100003) {
		if got, want := Sum(b), stdcrc.ChecksumIEEE(b); got != want {
			t.Errorf("long: %08X, not %08X", got, want)
		}
	}
}

func TestOnP1_1(t *testing.T) {
	if On(0x12345678, nil) != 0x12345678 {
		t.Error("no more bytes must leave the checksum as it is")
	}
	for _, sum := range []uint32{0, 1, 0x80000000, 0xFFFFFFFF, 0xCBF43926} {
		b := samples.Noise(5, 23)
		if got, want := On(sum, b), stdcrc.Update(sum, stdcrc.IEEETable, b); got != want {
			t.Errorf("On(%08X): %08X, not %08X", sum, got, want)
		}
	}
}

func TestTwoPartsP1_2(t *testing.T) {
	b := samples.Copies(6, 41)
	for cut := range len(b) + 1 {
		if On(Sum(b[:cut]), b[cut:]) != Sum(b) {
			t.Errorf("cut at %d", cut)
		}
	}
}

func TestBurstP1_2(t *testing.T) {
	b := samples.Noise(7, 24)
	sum := Sum(b)
	for _, v := range samples.Numbers(8, 3000, 1<<30) {
		burst := uint64(v)<<2 | uint64(v&3) | 1
		c := slices.Clone(b)
		from := v % (len(b)*8 - 32)
		for i := range 32 {
			if burst>>i&1 == 1 {
				c[(from+i)/8] ^= 1 << ((from + i) % 8)
			}
		}
		if Sum(c) == sum {
			t.Errorf("burst %08X at bit %d is not noticed", burst, from)
		}
	}
}

func TestArgumentsStayP0(t *testing.T) {
	b := samples.Noise(9, 33)
	c := slices.Clone(b)
	first := Sum(b)
	if !slices.Equal(b, c) || Sum(b) != first {
		t.Error("the bytes changed, or a second call answered otherwise")
	}
}
