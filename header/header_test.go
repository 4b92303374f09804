package header

import (
	"encoding/binary"
	"hash/crc32"
	"slices"
	"testing"

	"winepress/api"
	"winepress/samples"
)

// seal makes a head of bytes: their size ahead of them, zeros up to a multiple of 4, and their CRC-32 behind them.
func seal(body ...byte) []byte {
	b := append([]byte{0}, body...)
	for len(b)%4 != 0 {
		b = append(b, 0)
	}
	b[0] = byte(len(b) / 4)
	return binary.LittleEndian.AppendUint32(b, crc32.ChecksumIEEE(b))
}

func plain(dict uint32, l ...api.Filter) Head {
	return Head{Packed: -1, Plain: -1, Chain: l, Dict: dict}
}

func equal(a, b Head) bool {
	return a.Packed == b.Packed && a.Plain == b.Plain && a.Dict == b.Dict && slices.Equal(a.Chain, b.Chain)
}

func TestPutP17_1(t *testing.T) {
	delta, arm := api.Filter{Id: api.Delta, N: 4}, api.Filter{Id: api.Arm, N: 0x01020304}
	for i, c := range []struct {
		h    Head
		want []byte
	}{
		{plain(4096), seal(0, 33, 1, 0)},
		{Head{Packed: 1, Plain: 0, Dict: 4096}, seal(192, 1, 0, 33, 1, 0)},
		{Head{Packed: 300, Plain: -1, Dict: 1 << 20}, seal(64, 172, 2, 33, 1, 16)},
		{Head{Packed: -1, Plain: 128, Dict: 1<<32 - 1}, seal(128, 128, 1, 33, 1, 40)},
		{plain(6144, delta), seal(1, 3, 1, 3, 33, 1, 1)},
		{plain(4096, arm, delta, api.Filter{Id: api.Sparc}), seal(3, 7, 4, 4, 3, 2, 1, 3, 1, 3, 9, 0, 33, 1, 0)},
		{Head{Packed: 1<<63 - 1, Plain: 1<<63 - 1, Dict: 4096}, seal(192, 255, 255, 255, 255, 255, 255, 255, 255, 127, 255, 255, 255, 255, 255, 255, 255, 255, 127, 33, 1, 0)},
	} {
		if got, e := Put(c.h); e != api.OK || !slices.Equal(got, c.want) {
			t.Errorf("case %d: %v, %d, not %v", i, got, e, c.want)
		}
	}
	if got, _ := Put(plain(4096)); !slices.Equal(got[:8], []byte{2, 0, 33, 1, 0, 0, 0, 0}) || len(got) != 12 {
		t.Errorf("the example: %v", got)
	}
}

func TestNotValidP17_1(t *testing.T) {
	four := slices.Repeat([]api.Filter{{Id: api.Delta, N: 1}}, 4)
	for i, h := range []Head{
		{}, plain(0), plain(4095), plain(4097), plain(1<<32 - 2), {Packed: 0, Plain: -1, Dict: 4096}, {Packed: -2, Plain: -1, Dict: 4096}, {Packed: -1 << 63, Plain: 5, Dict: 4096},
		{Packed: -1, Plain: -2, Dict: 4096}, {Packed: 1, Plain: -1 << 63, Dict: 4096},
		plain(4096, four...), plain(4096, api.Filter{Id: api.Lzma2, N: 4096}), plain(4096, api.Filter{Id: api.Delta}), plain(4096, api.Filter{Id: api.Ppc, N: 2}), plain(4096, api.Filter{}),
	} {
		if got, e := Put(h); e != api.ErrArg || len(got) != 0 {
			t.Errorf("case %d: %v, %d", i, got, e)
		}
	}
}

func TestGetErrorsP17_2(t *testing.T) {
	good := seal(0, 33, 1, 0)
	otherSum := slices.Clone(good)
	otherSum[11] ^= 1
	big := []byte{255, 255, 255, 255, 255, 255, 255, 255, 255}
	for i, c := range []struct {
		b    []byte
		want api.Errno
	}{
		{nil, api.ErrTrunc}, {[]byte{0}, api.ErrHead}, {[]byte{0, 1, 2}, api.ErrHead}, {[]byte{1}, api.ErrTrunc}, {good[:11], api.ErrTrunc}, {otherSum[:11], api.ErrTrunc},
		{[]byte{255, 0, 0}, api.ErrTrunc}, {otherSum, api.ErrHead}, {append([]byte{1}, good[1:]...), api.ErrHead},
		{seal(4, 33, 1, 0), api.ErrOpt}, {seal(8, 33, 1, 0), api.ErrOpt}, {seal(16, 33, 1, 0), api.ErrOpt}, {seal(32, 33, 1, 0), api.ErrOpt}, {seal(60, 255, 255), api.ErrOpt},
		{seal(append([]byte{64}, big...)...), api.ErrHead}, {seal(64, 128), api.ErrHead}, {seal(64, 0, 33, 1, 0), api.ErrHead}, {seal(64, 129, 0, 33, 1, 0), api.ErrHead},
		{seal(128, 255, 255), api.ErrHead}, {seal(append([]byte{192, 1}, big...)...), api.ErrHead},
		{seal(0), api.ErrOpt}, // the zeros are a filter 0 without properties
		{seal(0, 161, 0), api.ErrHead}, {seal(0, 33, 129, 0), api.ErrHead}, {seal(0, 128, 128), api.ErrHead}, {seal(0, 33, 255), api.ErrHead}, {seal(0, 33, 9, 0), api.ErrHead},
		{seal(slices.Concat([]byte{0, 33}, big[:8], []byte{127})...), api.ErrHead},
		{seal(0, 33, 1, 41), api.ErrOpt}, {seal(0, 33, 0, 0), api.ErrOpt}, {seal(0, 33, 2, 0, 0), api.ErrOpt}, {seal(0, 3, 1, 0), api.ErrOpt}, {seal(0, 7, 0), api.ErrOpt},
		{seal(1, 33, 1, 0, 33, 1, 0), api.ErrOpt}, {seal(1, 3, 1, 0, 3, 1, 0), api.ErrOpt}, {seal(1, 7, 4, 1, 0, 0, 0, 33, 1, 0), api.ErrOpt}, {seal(1, 8, 0, 33, 1, 0), api.ErrOpt},
		{seal(1, 33, 1, 0), api.ErrOpt},                      // it is not the last one, ahead of what follows
		{seal(1, 4, 0, 255, 255, 255), api.ErrOpt},           // it is no filter, ahead of what follows
		{seal(1, 4, 200, 1, 0, 0), api.ErrHead},              // its properties are missing, ahead of what it is
		{seal(0, 128, 128, 128, 128, 8, 0, 0), api.ErrOpt},   // an Id of 2^31
		{seal(0, 161, 128, 128, 128, 16, 1, 0), api.ErrOpt},  // 2^32 + 33
		{seal(0, 128, 128, 128, 128, 8, 99, 0), api.ErrHead}, // its properties are missing, too
		{seal(0, 33, 1, 0, 1), api.ErrOpt}, {seal(0, 33, 1, 0, 0, 0, 0, 0, 1), api.ErrOpt},
	} {
		if h, n, e := Get(c.b); e != c.want || n != 0 || !equal(h, Head{}) {
			t.Errorf("case %d, %v: %v, %d, %d, not %d", i, c.b, h, n, e, c.want)
		}
	}
}

func TestGetP17_2(t *testing.T) {
	arm := func(n uint32) api.Filter { return api.Filter{Id: api.Arm, N: n} }
	for i, c := range []struct {
		b    []byte
		want Head
	}{
		{seal(0, 33, 1, 0), plain(4096)},
		{seal(0, 33, 1, 40), plain(1<<32 - 1)},
		{seal(64, 5, 33, 1, 0), Head{Packed: 5, Plain: -1, Dict: 4096}},
		{seal(128, 0, 33, 1, 0), Head{Packed: -1, Plain: 0, Dict: 4096}},
		{seal(1, 7, 0, 33, 1, 0), plain(4096, arm(0))},
		{seal(1, 7, 4, 0, 0, 0, 0, 33, 1, 0), plain(4096, arm(0))},
		{seal(3, 7, 4, 4, 0, 0, 255, 3, 1, 255, 10, 0, 33, 1, 2), plain(8192, arm(0xFF000004), api.Filter{Id: api.Delta, N: 256}, api.Filter{Id: api.Arm64})},
		{seal(append([]byte{0, 33, 1, 0}, make([]byte, 1015)...)...), plain(4096)}, // more zeros than needed, up to the greatest head
	} {
		if h, n, e := Get(c.b); e != api.OK || n != len(c.b) || !equal(h, c.want) {
			t.Errorf("case %d: %v, %d, %d", i, h, n, e)
		}
	}
}

func TestNewMemoryP17_3(t *testing.T) {
	h := plain(4096, api.Filter{Id: api.Delta, N: 3}, api.Filter{Id: api.Arm})
	chain := slices.Clone(h.Chain)
	b, _ := Put(h)
	same := slices.Clone(b)
	got, _, _ := Get(b)
	if !slices.Equal(h.Chain, chain) || !slices.Equal(b, same) {
		t.Error("an argument changed")
	}
	clear(got.Chain)
	clear(b)
	if again, _ := Put(h); !slices.Equal(h.Chain, chain) || !slices.Equal(again, same) {
		t.Error("memory is shared")
	}
	room := make([]api.Filter, 1, 5) // nothing may be written behind a chain
	room[0] = api.Filter{Id: api.Arm}
	Put(plain(4096, room...))
	if room[:5][1] != (api.Filter{}) {
		t.Error("something was written behind the chain")
	}
}

func TestThereAndBackP17_4(t *testing.T) {
	filters := []api.Filter{{Id: api.Delta, N: 200}, {Id: api.Ppc}, {Id: api.Arm, N: 400}, {Id: api.Sparc, N: 1 << 31}, {Id: api.Arm64}}
	for i, v := range samples.Numbers(1, 2000, 1<<31) {
		h := Head{Packed: int64(v)<<(i%32) + 1, Plain: int64(v) >> (i % 31), Dict: uint32(2+i%2) << (11 + v%20)}
		if v&1 == 0 {
			h.Packed = -1
		}
		if v&2 == 0 {
			h.Plain = -1
		}
		for k := range v >> 4 % 4 {
			h.Chain = append(h.Chain, filters[(v>>6+k*3)%5])
		}
		b, e := Put(h)
		if e != api.OK {
			t.Fatalf("%v: %d", h, e)
		}
		for _, tail := range [][]byte{nil, {0}, {255, 255, 255}} {
			got, n, e := Get(append(slices.Clone(b), tail...))
			if e != api.OK || n != len(b) || !equal(got, h) {
				t.Fatalf("%v: %v, %d, %d", h, got, n, e)
			}
		}
	}
}

// Whatever the bytes are, the call returns.
func TestAnyBytesP0(t *testing.T) {
	for seed := range 3000 {
		body := samples.Noise(seed, 3+seed%40)
		body[0] &= 0xC3
		h, n, e := Get(seal(body...))
		if e != api.OK && (n != 0 || !equal(h, Head{}) || e != api.ErrHead && e != api.ErrOpt) {
			t.Errorf("%v: %v, %d, %d", body, h, n, e)
		}
	}
}
