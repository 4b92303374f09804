package branch

import (
	"encoding/hex"
	"slices"
	"testing"

	"winepress/api"
	"winepress/samples"
)

var ids = []int{api.Ppc, api.Arm, api.Sparc, api.Arm64}

func TestExampleP14_1(t *testing.T) {
	if got, e := Encode(api.Arm, 0, []byte{0, 0, 0, 0xEB}); e != api.OK || !slices.Equal(got, []byte{2, 0, 0, 0xEB}) {
		t.Errorf("%v, %d", got, e)
	}
}

// What another program makes of such bytes, with a start of 12345678 (hexadecimal).
func TestOthersBytesP14_1(t *testing.T) {
	for _, c := range []struct {
		id          int
		plain, want string
	}{
		{api.Ppc,
			"48000001440000014b86bbc5494c343d440000014bfffffd4bfffffd49e9c6164bfffffd440000014bfffffd44000001486471594bfffffd4c00000149447e354b55d4c1e6c3f3394bd4bedd4c0000014a9a021d4bfffffd4bbd67f94bfffffd",
			"4a3456794400000149bb12454b808ac1440000014a3456894a34568d49e9c6164a345695440000014a34569d440000014a98c8014a3456a94c0000014b78d4e9498a2b79e6c3f3394a09159d4c00000148ce58e54a3456c949f1bec94a3456d1"},
		{api.Arm,
			"e3da00ea8c0938eb184150eba5c1969ae2380dcb1fbed0ea048fa476e10540780a9c5d6dde7379eb2ee331eb83c832eb5e452aabe5ce8deade6691b1b877f0fe2ef17eeb3aae87114456307f28f1f477f6cd29ea3b9781140b30d198bae16bea",
			"e3da00ea2d1fc5ebba56ddeba5c1969ae2380dcb1fbed0ea048fa476e10540780a9c5d6d878906ebd8f8beeb2edebfeb5e452aabe5ce8deade6691b1b877f0fede060ceb3aae87114456307f28f1f477f6cd29ea3b9781140b30d198bae16bea"},
		{api.Sparc,
			"7ff1df50cb49db1d7f8000007ff492147fbfffffeb38ba5b402f4503404000007fde4d207fdd5179bc9f8a3f7f8000007f800000b1c620257fbfffff7fbfffff7fc0abde851fa00440400000595acec3404000004018be027fbfffff825a7e10",
			"7ffef4eecb49db1d7f8000004001a7b57fbfffffeb38ba5b403c5aa7404000007feb62c67fea6720bc9f8a3f7f8000007f800000b1c620257fbfffff7fbfffff7fcdc18c851fa00440400000595acec3404000004025d3b57fbfffff825a7e10"},
		{api.Arm64,
			"f92100d01c9b0010d148002f893d88273e4e0010fd119cd0e85f0cd0866b4d20dd8303b0fc1800d01e4dfef06b270050d6bbe1d0638a02f0913b9433c3000c1738b93194824a0090c082d63d4ebdfbb015e9f7d0e6e0fff0927a0030bc51f6b0",
			"193c09f01c9b0010d148002f893d88273e4e0010fd119cd0087af5f0866b4d20fd9d0cd01c3309f05e6707906b270050d6bbe1d0a3a40b90913b9433c3000c17e6cebe94a26409b0c082d63d6ed704d0350301f026fb0890927a0030dc6bffd0"},
	} {
		plain, _ := hex.DecodeString(c.plain)
		want, _ := hex.DecodeString(c.want)
		if got, e := Encode(c.id, 0x12345678, plain); e != api.OK || !slices.Equal(got, want) {
			t.Errorf("filter %d: %x, %d", c.id, got, e)
		}
		if got, e := Decode(c.id, 0x12345678, want); e != api.OK || !slices.Equal(got, plain) {
			t.Errorf("filter %d, back: %x, %d", c.id, got, e)
		}
	}
}

// bitsOf returns the bits from low to high of w, as a number.
func bitsOf(w uint64, low, high int) uint64 {
	return w >> low % (1 << (high - low + 1))
}

// setBits returns w with the bits from low to high replaced.
func setBits(w uint64, low, high int, v uint64) uint64 {
	for i := low; i <= high; i++ {
		w = w&^(1<<i) | v>>(i-low)&1<<i
	}
	return w
}

// slow converts one group by the rows of the document's table; sign is 1, or -1 to decode.
func slow(id int, w, place uint64, sign int64) uint64 {
	add := func(n, of, limit uint64) uint64 { return uint64(int64(n)+sign*int64(of)) % limit }
	switch id {
	case api.Ppc:
		if w >= 0x48000001 && w <= 0x4BFFFFFD && w%4 == 1 {
			return setBits(w, 2, 25, add(bitsOf(w, 2, 25), place/4, 1<<24))
		}
	case api.Arm:
		if bitsOf(w, 24, 31) == 0xEB {
			return setBits(w, 0, 23, add(bitsOf(w, 0, 23), place/4+2, 1<<24))
		}
	case api.Sparc:
		if top := bitsOf(w, 22, 31); top == 0x100 || top == 0x1FF {
			w = setBits(w, 0, 22, add(bitsOf(w, 0, 22), place/4, 1<<23))
			for i := 22; i <= 29; i++ {
				w = setBits(w, i, i, bitsOf(w, 22, 22))
			}
			return setBits(w, 30, 31, 1)
		}
	case api.Arm64:
		if bitsOf(w, 26, 31) == 0x25 {
			return setBits(w, 0, 25, add(bitsOf(w, 0, 25), place/4, 1<<26))
		}
		n := bitsOf(w, 5, 23)*4 + bitsOf(w, 29, 30)
		if bitsOf(w, 24, 28) == 16 && bitsOf(w, 31, 31) == 1 && (n+1<<17)%(1<<21) < 1<<18 {
			n = add(n, place/4096, 1<<18)
			for i := 18; i <= 20; i++ {
				n = setBits(n, i, i, bitsOf(n, 17, 17))
			}
			return setBits(setBits(w, 5, 23, n/4), 29, 30, n%4)
		}
	}
	return w
}

// groups returns words around every edge of the table, and others.
func groups() []uint64 {
	l := []uint64{0, 0xFFFFFFFF, 0x48000000, 0x48000001, 0x48000002, 0x48000003, 0x4BFFFFFD, 0x4BFFFFFE, 0x4BFFFFFF, 0x4C000001, 0x47FFFFFD}
	for _, n := range []uint64{1<<17 - 2, 1<<17 - 1, 1 << 17, 1<<17 + 1, 1<<21 - 1<<17 - 1, 1<<21 - 1<<17, 1<<21 - 1<<17 + 1, 1<<18 - 1, 1 << 18} {
		l = append(l, setBits(setBits(0x90000000, 5, 23, n/4), 29, 30, n%4))
	}
	for _, v := range samples.Numbers(1, 6000, 1<<31) {
		r := uint64(v) * 0x9E3779B1 % (1 << 32)
		top := []uint64{0x48000000, 0xEB000000, 0x40000000, 0x7FC00000, 0x40400000, 0x7F800000, 0x94000000, 0x90000000, 0x90E00000, 0x90F00000, 0xB0100000, 0xF0EFFFE0}[v%12]
		keep := []uint64{0x03FFFFFD, 0x00FFFFFF, 0x003FFFFF, 0x6000FFFF, 0x600FFFFF, 0x6000001F}[v>>5%6]
		l = append(l, r, top|r&keep, top|r&keep|1)
	}
	return l
}

func TestTableP14_1(t *testing.T) {
	for _, id := range ids {
		for _, start := range []uint32{0, 4, 0x12345678, 0xFFFFE000, 0xFFFFFFFC} {
			words := groups()
			var b []byte
			for _, w := range words {
				b = append(b, byte(w), byte(w>>8), byte(w>>16), byte(w>>24))
				if id == api.Ppc || id == api.Sparc {
					slices.Reverse(b[len(b)-4:])
				}
			}
			for sign, f := range map[int64]func(int, uint32, []byte) ([]byte, api.Errno){1: Encode, -1: Decode} {
				got, e := f(id, start, b)
				if e != api.OK || len(got) != len(b) {
					t.Fatalf("filter %d: %d bytes, %d", id, len(got), e)
				}
				changed := 0
				for i, w := range words {
					want := slow(id, w, uint64(start+uint32(4*i)), sign)
					g := slices.Clone(got[4*i : 4*i+4])
					if id == api.Ppc || id == api.Sparc {
						slices.Reverse(g)
					}
					if have := uint64(g[0]) | uint64(g[1])<<8 | uint64(g[2])<<16 | uint64(g[3])<<24; have != want {
						t.Fatalf("filter %d, start %X, sign %d, group %d, %08X: %08X, not %08X", id, start, sign, i, w, have, want)
					}
					if want != w {
						changed++
					}
				}
				if changed < 200 {
					t.Errorf("filter %d: only %d groups count", id, changed)
				}
			}
		}
	}
}

func TestArgumentsP14_1(t *testing.T) {
	for _, f := range []func(int, uint32, []byte) ([]byte, api.Errno){Encode, Decode} {
		for _, id := range []int{0, api.Delta, 4, 6, 8, 11, api.Lzma2, -5, 1<<63 - 1, -1 << 63} {
			if got, e := f(id, 0, []byte{1, 2, 3, 4}); e != api.ErrArg || len(got) != 0 {
				t.Errorf("filter %d: %v, %d", id, got, e)
			}
		}
		for _, id := range ids {
			for _, start := range []uint32{1, 2, 3, 0xFFFFFFFF} {
				if got, e := f(id, start, []byte{1, 2, 3, 4}); e != api.ErrArg || len(got) != 0 {
					t.Errorf("start %d: %v, %d", start, got, e)
				}
			}
			if got, e := f(id, 4, nil); e != api.OK || len(got) != 0 {
				t.Errorf("no bytes: %v, %d", got, e)
			}
		}
	}
}

func TestNewMemoryP14_2(t *testing.T) {
	b := slices.Repeat([]byte{0, 0, 0, 0xEB}, 10)
	same := slices.Clone(b)
	for _, f := range []func(int, uint32, []byte) ([]byte, api.Errno){Encode, Decode} {
		got, _ := f(api.Arm, 400, b)
		clear(got)
		if !slices.Equal(b, same) {
			t.Error("the bytes changed, or are shared")
		}
	}
}

func TestThereAndBackP14_3(t *testing.T) {
	for _, id := range ids {
		for n := range 60 {
			b := make([]byte, 0, n)
			for _, w := range groups()[n*40:][:n/4+1] {
				b = append(b, byte(w>>24), byte(w>>16), byte(w>>8), byte(w))
				if id == api.Arm || id == api.Arm64 {
					slices.Reverse(b[len(b)-4:])
				}
			}
			b = b[:n]
			there, _ := Encode(id, 0xFFFFFFE0, b)
			back, _ := Decode(id, 0xFFFFFFE0, there)
			other, _ := Decode(id, 0xFFFFFFE0, b)
			again, _ := Encode(id, 0xFFFFFFE0, other)
			if !slices.Equal(back, b) || !slices.Equal(again, b) || len(there) != n || len(other) != n {
				t.Fatalf("filter %d, %d bytes: not reversed", id, n)
			}
			if rest := n - n%4; !slices.Equal(there[rest:], b[rest:]) || !slices.Equal(other[rest:], b[rest:]) {
				t.Fatalf("filter %d: the bytes after the last group changed", id)
			}
		}
	}
}
