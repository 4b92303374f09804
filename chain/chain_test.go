package chain

import (
	"slices"
	"testing"

	"winepress/api"
	"winepress/branch"
	"winepress/delta"
	"winepress/samples"
)

// good returns filters that are permitted in a chain.
func good() []api.Filter {
	return []api.Filter{
		{Id: api.Delta, N: 1}, {Id: api.Delta, N: 256}, {Id: api.Ppc}, {Id: api.Arm, N: 4}, {Id: api.Sparc, N: 1 << 31}, {Id: api.Arm64, N: 0xFFFFFFFC},
	}
}

// bad returns filters that are not.
func bad() []api.Filter {
	return []api.Filter{
		{Id: api.Delta}, {Id: api.Delta, N: 257}, {Id: api.Delta, N: 0xFFFFFFFF}, {Id: api.Ppc, N: 1}, {Id: api.Arm, N: 2}, {Id: api.Sparc, N: 3}, {Id: api.Arm64, N: 0xFFFFFFFF},
		{Id: api.Lzma2, N: 4096}, {}, {Id: 4}, {Id: 6}, {Id: 8}, {Id: 11}, {Id: -3, N: 1}, {Id: 1<<63 - 1}, {Id: -1 << 63},
	}
}

func TestMayP15_1(t *testing.T) {
	if !May(nil) || !May([]api.Filter{}) {
		t.Error("no filters are a chain")
	}
	b := []byte("abcdefgh")
	for _, f := range good() {
		for n := 1; n <= 5; n++ {
			l := slices.Repeat([]api.Filter{f}, n)
			_, there := Send(l, b)
			_, back := Back(l, b)
			if ok := n <= 3; May(l) != ok || (there == api.OK) != ok || (back == api.OK) != ok {
				t.Errorf("%v, %d times: %v, %d, %d", f, n, May(l), there, back)
			}
		}
	}
	for _, f := range bad() {
		for _, l := range [][]api.Filter{{f}, {good()[0], f}, {f, good()[1], good()[2]}, {good()[2], good()[1], f}} {
			got, there := Send(l, b)
			other, back := Back(l, b)
			if May(l) || there != api.ErrArg || back != api.ErrArg || len(got) != 0 || len(other) != 0 {
				t.Errorf("%v: %v, %d, %d", l, May(l), there, back)
			}
		}
	}
}

func TestOrderP15_1(t *testing.T) {
	b := slices.Concat(samples.Noise(1, 301), slices.Repeat([]byte{1, 0, 0, 0xEB}, 30))
	l := []api.Filter{{Id: api.Delta, N: 3}, {Id: api.Arm, N: 400}, {Id: api.Delta, N: 1}}
	one, _ := delta.Encode(b, 3)
	two, _ := branch.Encode(api.Arm, 400, one)
	three, _ := delta.Encode(two, 1)
	if got, e := Send(l, b); e != api.OK || !slices.Equal(got, three) {
		t.Errorf("Send: %d", e)
	}
	one, _ = delta.Decode(b, 1)
	two, _ = branch.Decode(api.Arm, 400, one)
	three, _ = delta.Decode(two, 3)
	if got, e := Back(l, b); e != api.OK || !slices.Equal(got, three) {
		t.Errorf("Back: %d", e)
	}
	for _, f := range []func([]api.Filter, []byte) ([]byte, api.Errno){Send, Back} {
		if got, e := f(nil, b); e != api.OK || !slices.Equal(got, b) {
			t.Errorf("no filters: %d", e)
		}
		if got, e := f(l, nil); e != api.OK || len(got) != 0 {
			t.Errorf("no bytes: %v, %d", got, e)
		}
	}
}

func TestCodesP15_2(t *testing.T) {
	for code, want := range map[int]uint32{0: 4096, 1: 6144, 2: 8192, 3: 12288, 16: 1 << 20, 17: 3 << 19, 38: 1 << 31, 39: 3 << 30, 40: 1<<32 - 1, 41: 0, 63: 0, -1: 0, 1<<63 - 1: 0, -1 << 63: 0} {
		if got := Dict(code); got != want {
			t.Errorf("Dict(%d): %d", code, got)
		}
	}
	for code := range 41 {
		n := Dict(code)
		if Code(n) != code || Code(n-1) != code || code < 40 && Code(n+1) != code+1 {
			t.Errorf("around the code %d: %d, %d, %d", code, Code(n-1), Code(n), Code(n+1))
		}
		power := uint64(1) << (11 + code/2)
		if want := power * uint64(2+code&1); code < 40 && uint64(n) != want {
			t.Errorf("Dict(%d): %d, not %d", code, n, want)
		}
	}
	if Code(0) != 0 || Code(1) != 0 || Code(1<<20) != 16 || Code(1<<32-1) != 40 || Code(3<<30+1) != 40 {
		t.Error("codes at the ends")
	}
}

func TestBytesP15_2(t *testing.T) {
	for _, c := range []struct {
		f    api.Filter
		want []byte
	}{
		{api.Filter{Id: api.Delta, N: 1}, []byte{0}}, {api.Filter{Id: api.Delta, N: 256}, []byte{255}},
		{api.Filter{Id: api.Ppc}, nil}, {api.Filter{Id: api.Arm, N: 4}, []byte{4, 0, 0, 0}}, {api.Filter{Id: api.Arm64, N: 0x12345678}, []byte{0x78, 0x56, 0x34, 0x12}},
		{api.Filter{Id: api.Lzma2, N: 4096}, []byte{0}}, {api.Filter{Id: api.Lzma2, N: 1 << 20}, []byte{16}}, {api.Filter{Id: api.Lzma2, N: 1<<32 - 1}, []byte{40}},
	} {
		if got, e := Bytes(c.f); e != api.OK || !slices.Equal(got, c.want) {
			t.Errorf("%v: %v, %d", c.f, got, e)
		}
	}
	for _, f := range append(bad(), api.Filter{Id: api.Lzma2, N: 4097}, api.Filter{Id: api.Lzma2}, api.Filter{Id: api.Lzma2, N: 1<<32 - 2}) {
		if f.Id == api.Lzma2 && f.N == 4096 {
			continue // it has properties, though it is not permitted in a chain
		}
		if got, e := Bytes(f); e != api.ErrArg || len(got) != 0 {
			t.Errorf("%v: %v, %d", f, got, e)
		}
	}
}

func TestReadP15_2(t *testing.T) {
	for _, c := range []struct {
		id   int
		b    []byte
		want uint32
	}{
		{api.Delta, []byte{0}, 1}, {api.Delta, []byte{255}, 256},
		{api.Ppc, nil, 0}, {api.Arm, []byte{}, 0}, {api.Sparc, []byte{0, 0, 0, 0}, 0}, {api.Arm64, []byte{0x7C, 0x56, 0x34, 0xF2}, 0xF234567C},
		{api.Lzma2, []byte{0}, 4096}, {api.Lzma2, []byte{40}, 1<<32 - 1},
	} {
		if got, e := Read(c.id, c.b); e != api.OK || got != (api.Filter{Id: c.id, N: c.want}) {
			t.Errorf("Read(%d, %v): %v, %d", c.id, c.b, got, e)
		}
	}
	for _, c := range []struct {
		id int
		b  []byte
	}{
		{api.Delta, nil}, {api.Delta, []byte{0, 0}}, {api.Lzma2, nil}, {api.Lzma2, []byte{41}}, {api.Lzma2, []byte{255}}, {api.Lzma2, []byte{0, 0}},
		{api.Ppc, []byte{0}}, {api.Arm, []byte{0, 0}}, {api.Sparc, []byte{0, 0, 0}}, {api.Arm64, []byte{0, 0, 0, 0, 0}},
		{api.Ppc, []byte{1, 0, 0, 0}}, {api.Arm, []byte{2, 0, 0, 0}}, {api.Sparc, []byte{3, 0, 0, 0}}, {api.Arm64, []byte{255, 255, 255, 255}},
		{0, nil}, {4, nil}, {6, nil}, {8, []byte{0, 0, 0, 0}}, {11, nil}, {-3, []byte{0}}, {1<<63 - 1, nil}, {-1 << 63, nil},
	} {
		if got, e := Read(c.id, c.b); e != api.ErrOpt || got != (api.Filter{}) {
			t.Errorf("Read(%d, %v): %v, %d", c.id, c.b, got, e)
		}
	}
}

func TestNewMemoryP15_3(t *testing.T) {
	b := samples.Noise(2, 100)
	l := good()[:3]
	sameB, sameL := slices.Clone(b), slices.Clone(l)
	for _, chain := range [][]api.Filter{nil, l} {
		for _, f := range []func([]api.Filter, []byte) ([]byte, api.Errno){Send, Back} {
			got, _ := f(chain, b)
			clear(got)
			if !slices.Equal(b, sameB) || !slices.Equal(l, sameL) {
				t.Error("an argument changed, or is shared")
			}
		}
	}
}

func TestThereAndBackP15_4(t *testing.T) {
	for _, b := range samples.Kinds(500) {
		for i, f := range good() {
			for _, l := range [][]api.Filter{nil, {f}, {f, good()[(i+1)%6]}, {f, good()[(i+2)%6], good()[(i+5)%6]}} {
				there, _ := Send(l, b)
				if back, e := Back(l, there); e != api.OK || !slices.Equal(back, b) {
					t.Errorf("%v: what was sent does not come back, %d", l, e)
				}
			}
		}
	}
	all := good()
	for code := range 41 {
		all = append(all, api.Filter{Id: api.Lzma2, N: Dict(code)})
	}
	for _, f := range all {
		b, e := Bytes(f)
		if got, again := Read(f.Id, b); e != api.OK || again != api.OK || got != f {
			t.Errorf("%v: %v is read as %v, %d", f, b, got, again)
		}
	}
}
