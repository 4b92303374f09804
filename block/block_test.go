package block

import (
	"bytes"
	"slices"
	"testing"

	"winepress/api"
	"winepress/chain"
	"winepress/chunks"
	"winepress/flags"
	"winepress/header"
	"winepress/index"
	"winepress/samples"
)

const enough = 1 << 32

func options() api.Options {
	return api.Options{Lc: 3, Lp: 0, Pb: 2, Nice: 64, Chunk: 1000, Check: api.Crc32, Dict: 4096}
}

func pack(t *testing.T, data []byte, o api.Options) ([]byte, index.Record) {
	t.Helper()
	b, r, e := Pack(data, o)
	if e != api.OK {
		t.Fatalf("%v: %d", o, e)
	}
	return b, r
}

// fails checks that a block is not read.
func fails(t *testing.T, name string, b []byte, check int, memory uint64, want api.Errno) {
	t.Helper()
	data, n, r, e := Read(b, check, memory)
	if e != want || len(data) != 0 || n != 0 || r != (index.Record{}) {
		t.Errorf("%s: %d bytes, %d, %v, %d, not %d", name, len(data), n, r, e, want)
	}
}

func TestFineP19_1(t *testing.T) {
	for i, f := range []func(o *api.Options){
		func(o *api.Options) { o.Lc = 5 }, func(o *api.Options) { o.Chunk = 0 }, func(o *api.Options) { o.Dict = 4095 }, func(o *api.Options) { o.Nice = 1 },
		func(o *api.Options) { o.Check = 2 }, func(o *api.Options) { o.Check = -1 }, func(o *api.Options) { o.Chain = []api.Filter{{Id: api.Lzma2, N: 4096}} },
		func(o *api.Options) { o.Chain = []api.Filter{{Id: api.Delta}} }, func(o *api.Options) { o.Chain = slices.Repeat([]api.Filter{{Id: api.Arm}}, 4) },
	} {
		o := options()
		f(&o)
		if b, r, e := Pack([]byte("abc"), o); Fine(o) || e != api.ErrArg || len(b) != 0 || r != (index.Record{}) {
			t.Errorf("case %d: %v, %v, %d", i, b, r, e)
		}
	}
	o := options()
	o.Block = -7 // it has no effect here
	o.Chain = slices.Repeat([]api.Filter{{Id: api.Arm}}, 3)
	if !Fine(o) || Fine(api.Options{}) {
		t.Error("valid options, and none")
	}
}

func TestExampleP19_1(t *testing.T) {
	b, r := pack(t, nil, options())
	head, _ := header.Put(header.Head{Packed: 1, Plain: 0, Dict: 4096})
	want := slices.Concat(head, make([]byte, 8))
	if len(head) != 12 || !slices.Equal(b, want) || r != (index.Record{Unpadded: 17, Plain: 0}) {
		t.Errorf("no data: %v, %v", b, r)
	}
}

func TestPackP19_1(t *testing.T) {
	for i, data := range append(samples.Kinds(2500), samples.Few(1, 77, 3), []byte{7}) {
		for check := range map[int]int{api.None: 0, api.Crc32: 4, api.Crc64: 8, api.Sha256: 32} {
			for _, l := range [][]api.Filter{nil, {{Id: api.Delta, N: 2}}, {{Id: api.Arm, N: 400}, {Id: api.Delta, N: 1}}} {
				o := options()
				o.Check, o.Chain, o.Dict = check, l, 4096+uint32(i)*3000
				sent, _ := chain.Send(l, data)
				packed, _ := chunks.Pack(sent, o)
				head, _ := header.Put(header.Head{Packed: int64(len(packed)), Plain: int64(len(data)), Chain: l, Dict: chain.Dict(chain.Code(o.Dict))})
				want := append(slices.Clone(head), packed...)
				for len(want)%4 != 0 {
					want = append(want, 0)
				}
				sum := flags.Sum(check, data)
				want = append(want, sum...)
				b, r := pack(t, data, o)
				if !bytes.Equal(b, want) || r != (index.Record{Unpadded: int64(len(head) + len(packed) + len(sum)), Plain: int64(len(data))}) {
					t.Errorf("%v: different, %v", o, r)
				}
			}
		}
	}
}

// build makes a block with any head around the chunks of data.
func build(data []byte, h header.Head, check int) []byte {
	o := options()
	sent, _ := chain.Send(h.Chain, data)
	packed, _ := chunks.Pack(sent, o)
	head, _ := header.Put(h)
	b := append(head, packed...)
	b = append(b, make([]byte, (4-len(b)%4)%4)...)
	return append(b, flags.Sum(check, data)...)
}

func TestSizesInTheHeadP19_2(t *testing.T) {
	data := samples.Few(3, 501, 3)
	packed, _ := chunks.Pack(data, options())
	size, plain := int64(len(packed)), int64(len(data))
	for _, h := range []header.Head{{Packed: -1, Plain: -1}, {Packed: size, Plain: -1}, {Packed: -1, Plain: plain}, {Packed: size, Plain: plain}} {
		h.Dict = 4096
		b := build(data, h, api.Crc64)
		got, n, _, e := Read(b, api.Crc64, 4096)
		if e != api.OK || n != len(b) || !slices.Equal(got, data) {
			t.Errorf("%v: %d, %d", h, n, e)
		}
	}
	for _, h := range []header.Head{
		{Packed: size + 1, Plain: -1}, {Packed: size - 1, Plain: -1}, {Packed: 1<<63 - 1, Plain: plain}, {Packed: -1, Plain: plain - 1}, {Packed: -1, Plain: plain + 1}, {Packed: size, Plain: 0}, {Packed: size, Plain: 1<<63 - 1},
	} {
		h.Dict = 4096
		b := build(data, h, api.Crc64)
		fails(t, "other sizes", b, api.Crc64, 4096, api.ErrData)
		fails(t, "other sizes, ahead of the end", b[:len(b)-9], api.Crc64, 4096, api.ErrData)
	}
}

func TestReadErrorsP19_2(t *testing.T) {
	data := samples.Few(3, 501, 3)
	h := header.Head{Packed: -1, Plain: -1, Dict: 1 << 20}
	b := build(data, h, api.Crc32)
	for _, check := range []int{2, 3, -1, 256, 1<<63 - 1} {
		fails(t, "no check", nil, check, enough, api.ErrArg)
	}
	fails(t, "no bytes", nil, api.Crc32, enough, api.ErrTrunc)
	fails(t, "no block", []byte{0, 0, 0, 0}, api.Crc32, enough, api.ErrHead)
	fails(t, "a reserved bit", reserved(), api.Crc32, 0, api.ErrOpt)
	fails(t, "little memory", b, api.Crc32, 1<<20-1, api.ErrMem)
	fails(t, "no memory, ahead of the chunks", b[:13], api.Crc32, 0, api.ErrMem)
	if _, _, _, e := Read(b, api.Crc32, 1<<20); e != api.OK {
		t.Errorf("just enough memory: %d", e)
	}
	if _, _, _, e := Read(b, api.Crc32, ^uint64(0)); e != api.OK {
		t.Errorf("all memory: %d", e)
	}
	wrong := slices.Clone(b)
	wrong[12] = 3
	fails(t, "a wrong control byte", wrong, api.Crc32, enough, api.ErrData)
	for cut := range b {
		fails(t, "cut", b[:cut], api.Crc32, enough, api.ErrTrunc)
	}
	other := slices.Clone(b)
	other[len(b)-1] ^= 1
	fails(t, "another check", other, api.Crc32, enough, api.ErrCheck)
	fails(t, "a check of the other kind", append(b, make([]byte, 40)...), api.Sha256, enough, api.ErrCheck)
}

// reserved is a head that nothing reads.
func reserved() []byte {
	b := []byte{2, 4, 33, 1, 0, 0, 0, 0}
	return append(b, flags.Sum(api.Crc32, b)...)
}

func TestZerosP19_2(t *testing.T) {
	seen := [4]int{}
	for n := 1; n < 60; n++ {
		data := samples.Noise(n, n)
		b, r := pack(t, data, options())
		zeros := len(b) - int(r.Unpadded)
		seen[zeros]++
		for i := range zeros {
			c := slices.Clone(b)
			c[len(c)-5-i] = 1
			fails(t, "a byte that must be 0", c, api.Crc32, enough, api.ErrData)
			fails(t, "the same, at the end of the bytes", c[:len(c)-1], api.Crc32, enough, api.ErrTrunc)
			c[len(c)-1] ^= 1
			fails(t, "the same, with another check", c, api.Crc32, enough, api.ErrData)
		}
	}
	if slices.Min(seen[:]) == 0 {
		t.Errorf("numbers of zeros: %v", seen)
	}
}

func TestNewMemoryP19_3(t *testing.T) {
	data := samples.Copies(5, 700)
	o := options()
	o.Chain = []api.Filter{{Id: api.Delta, N: 1}}
	same, sameChain := slices.Clone(data), slices.Clone(o.Chain)
	b, _ := pack(t, data, o)
	sameB := slices.Clone(b)
	got, _, _, _ := Read(b, api.Crc32, enough)
	if !slices.Equal(data, same) || !slices.Equal(o.Chain, sameChain) || !slices.Equal(b, sameB) {
		t.Error("an argument changed")
	}
	clear(got)
	clear(b)
	if again, _ := pack(t, data, o); !slices.Equal(data, same) || !slices.Equal(again, sameB) {
		t.Error("memory is shared")
	}
}

func TestThereAndBackP19_4(t *testing.T) {
	for _, n := range []int{0, 1, 2, 3, 500, 3000} {
		for i, data := range samples.Kinds(n) {
			for check := range map[int]int{api.None: 0, api.Crc32: 4, api.Crc64: 8, api.Sha256: 32} {
				o := options()
				o.Check, o.Chunk, o.Dict = check, []int{10, 65536, 300, 1, 1000}[i], []uint32{4096, 5000, 1 << 26, 1 << 20, 12289}[i]
				o.Chain = []api.Filter{{Id: api.Sparc, N: 8}, {Id: api.Delta, N: 9}, {Id: api.Arm64}}[:i%4]
				b, r := pack(t, data, o)
				got, size, record, e := Read(append(slices.Clone(b), samples.Noise(i, 9)...), check, enough)
				if e != api.OK || size != len(b) || record != r || !bytes.Equal(got, data) {
					t.Fatalf("%v: %d bytes, %d, %v, %d", o, len(got), size, record, e)
				}
				if parts := (n + o.Chunk - 1) / o.Chunk; len(b) > n+3*parts+128 {
					t.Errorf("%d bytes in %d chunks: a block of %d", n, parts, len(b))
				}
			}
		}
	}
}

// With any bit inverted, a block is not read to other data without an error.
func TestInvertedBitsP0(t *testing.T) {
	data := samples.Few(4, 200, 4)
	o := options()
	o.Check, o.Chain = api.Sha256, []api.Filter{{Id: api.Delta, N: 1}}
	b, _ := pack(t, data, o)
	for i := range len(b) * 8 {
		c := slices.Clone(b)
		c[i/8] ^= 1 << (i % 8)
		if got, _, _, e := Read(c, api.Sha256, enough); e == api.OK && !slices.Equal(got, data) {
			t.Errorf("bit %d: read to other data", i)
		}
	}
}
