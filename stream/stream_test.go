package stream

import (
	"bytes"
	"encoding/hex"
	"slices"
	"testing"

	"winepress/api"
	"winepress/block"
	"winepress/flags"
	"winepress/index"
	"winepress/samples"
)

const enough = 1 << 32

func options() api.Options {
	return api.Options{Lc: 3, Lp: 0, Pb: 2, Nice: 64, Chunk: 1000, Block: 700, Check: api.Crc32, Dict: 4096}
}

func pack(t *testing.T, data []byte, o api.Options) []byte {
	t.Helper()
	b, e := Pack(data, o)
	if e != api.OK {
		t.Fatalf("%v: %d", o, e)
	}
	return b
}

// reads checks that streams are read to data.
func reads(t *testing.T, name string, b, data []byte) {
	t.Helper()
	if got, e := Read(b, enough); e != api.OK || !bytes.Equal(got, data) {
		t.Errorf("%s: %d bytes, %d", name, len(got), e)
	}
}

// fails checks that streams are not read.
func fails(t *testing.T, name string, b []byte, want api.Errno) {
	t.Helper()
	if got, e := Read(b, enough); e != want || len(got) != 0 {
		t.Errorf("%s: %d bytes, %d, not %d", name, len(got), e, want)
	}
}

func TestFineP20_1(t *testing.T) {
	for i, f := range []func(o *api.Options){
		func(o *api.Options) { o.Block = 0 }, func(o *api.Options) { o.Block = -1 }, func(o *api.Options) { o.Block = -1 << 63 },
		func(o *api.Options) { o.Check = 3 }, func(o *api.Options) { o.Chunk = 0 }, func(o *api.Options) { o.Chain = []api.Filter{{}} },
	} {
		o := options()
		f(&o)
		l, one := Parts([]byte("abc"), o)
		b, two := Pack([]byte("abc"), o)
		c, three := Join(o, nil, nil)
		if Fine(o) || one != api.ErrArg || two != api.ErrArg || three != api.ErrArg || len(l) != 0 || len(b) != 0 || len(c) != 0 {
			t.Errorf("case %d: %v, %d, %d, %d", i, Fine(o), one, two, three)
		}
	}
	o := options()
	for _, size := range []int{1, 1<<63 - 1} {
		o.Block = size
		if !Fine(o) {
			t.Errorf("blocks of %d", size)
		}
	}
}

func TestPartsP20_1(t *testing.T) {
	data := []byte("abcdefghij")
	for size, want := range map[int][]string{
		1: {"a", "b", "c", "d", "e", "f", "g", "h", "i", "j"}, 3: {"abc", "def", "ghi", "j"}, 5: {"abcde", "fghij"}, 9: {"abcdefghi", "j"}, 10: {"abcdefghij"}, 11: {"abcdefghij"}, 1<<63 - 1: {"abcdefghij"},
	} {
		o := options()
		o.Block = size
		l, e := Parts(data, o)
		if e != api.OK || !slices.EqualFunc(l, want, func(a []byte, b string) bool { return string(a) == b }) {
			t.Errorf("parts of %d: %q, %d", size, l, e)
		}
	}
	if l, e := Parts(nil, options()); e != api.OK || len(l) != 0 {
		t.Errorf("no data: %v, %d", l, e)
	}
}

func TestJoinP20_1(t *testing.T) {
	o := options()
	record := index.Record{Unpadded: 5, Plain: 7}
	for i, c := range []struct {
		blocks [][]byte
		l      []index.Record
	}{
		{nil, []index.Record{record}}, {[][]byte{{1}}, nil}, {[][]byte{{1}, {2}}, []index.Record{record}},
		{[][]byte{{1}}, []index.Record{{}}}, {[][]byte{{1}}, []index.Record{{Unpadded: 4}}}, {[][]byte{{1}}, []index.Record{{Unpadded: 5, Plain: -1}}},
	} {
		if b, e := Join(o, c.blocks, c.l); e != api.ErrArg || len(b) != 0 {
			t.Errorf("case %d: %v, %d", i, b, e)
		}
	}
	head, _ := flags.Head(o.Check)
	list, _ := index.Put([]index.Record{record, record})
	foot, _ := flags.Foot(o.Check, len(list))
	want := slices.Concat(head, []byte{1, 2, 3}, list, foot)
	if b, e := Join(o, [][]byte{{1, 2}, {3}}, []index.Record{record, record}); e != api.OK || !slices.Equal(b, want) {
		t.Errorf("two blocks: %v, %d", b, e)
	}
}

func TestExampleP20_1(t *testing.T) {
	b := pack(t, nil, options())
	head, _ := flags.Head(api.Crc32)
	list, _ := index.Put(nil)
	foot, _ := flags.Foot(api.Crc32, 8)
	if len(b) != 32 || !slices.Equal(b, slices.Concat(head, list, foot)) {
		t.Errorf("no data: %v", b)
	}
}

func TestPackP20_1(t *testing.T) {
	for _, data := range samples.Kinds(3000) {
		for _, size := range []int{299, 1000, 5000} {
			o := options()
			o.Block = size
			head, _ := flags.Head(o.Check)
			want := head
			var l []index.Record
			for from := 0; from < len(data); from += size {
				b, r, _ := block.Pack(data[from:min(from+size, len(data))], o)
				want, l = append(want, b...), append(l, r)
			}
			list, _ := index.Put(l)
			foot, _ := flags.Foot(o.Check, len(list))
			if got := pack(t, data, o); !bytes.Equal(got, slices.Concat(want, list, foot)) {
				t.Errorf("blocks of %d: different", size)
			}
		}
	}
}

// Streams that another program made, with several checks, filters and blocks.
func TestOthersStreamsP20_2(t *testing.T) {
	few, copies := samples.Few(7, 300, 4), samples.Copies(42, 3000)
	var all, data []byte
	for i, c := range []struct {
		stream string
		data   []byte
	}{
		{"fd377a585a000004e6d6b4460200210100000000372797d6e0012b00945d003098ecc2642ca633cd61f692bee6d734dcce06de13f1e587ea27b43c0c9968b52924155ef240dda574413c25ae1a70e17f4ab1a4b3b9cc5579bda57be72b19ea5d75cdba0576ae1b9b8410ee84da52b8133f1dc1e8aa3e47accf00612117ea1006f84310d71ddfded2755eaafc3f4bcd4ae3c102e8d2131efd015664d73d82ee9907c17f98fa62819f20de93544f2491330aec50003c3bbc0c10dc7d0b0001b001ac020000cb9cc6e0b1c467fb020000000004595a", few},
		{"fd377a585a00000ae1fb0ca10201030101210101dbc2abd5e004af002b120010e0ff5ee15f40385f51432d1ea02ecd8d064cfc31b5825233d905f035751196f091f5ef227447e1c358ae0000ba930c0605072ff106db46b5049f61cfb8c1b12ede17de51b43f09f72f50e6220201030101210101dbc2abd5e004af0042120053e0ff5ebdd4c15acf2800121ea65783f41a3a1e0a1f291346faa003f5942e2582ae6ef99afffb860e7b1cda1f13ef75c69b041a1100a797acd6ac7e52fac1fa3b0000000011f911c035a9eb080429f9550fac9d36a08de88397e78f81a792e9e989bd1fec0201030101210101dbc2abd5e002570028120010e0ff559a0999dff94fa69e735397d70cf07e11c0384b83087b1a52fd61b37f69de02c7d5afd900009d9461b3676037380248720bea357ac6c894c08aa92678ee263da9a8811df5cf00035fb00976b0095cd804009e234c03133a83d703000000000a595a", copies},
		{"fd377a585a000000ff12d94104020a040010000009002101000000008d26abc2e00bb700515d0010ef560411a3d07e0c104e90028ad7adf6a9d9d968a899cc2985a0fb4e7168bc780136298a13ca4bb96da533bc4b5052d817b1fd85247f5b802e73b5894d6961a53c5ea075bcb51c5988279db8ff4898000000000000016db817000000aae4469aa8000afc020000000000595a", copies},
		{"fd377a585a0000016922de3603c038d00f210100000000003b4877b9e007cf00305d0010ef560411a3d07e0c104e90028ad7adf6a9d9d968a899cc2985a0fb4e7168bc780136298a13ca4bb96da53379c8b6fe00f1a07e0503c032e807210100000000008da159e8e003e7002a5d0010ee3c71699ba2fda8670c2892b6fa12033efe27dfd541bb6b73a92bbdf89ab5d026a9fffd6141e5fc000000005a181d5100024cd00f46e8076d7665273e300d8b020000000001595a", copies},
	} {
		b, e := hex.DecodeString(c.stream)
		if e != nil {
			t.Fatal(e)
		}
		reads(t, "a stream", b, c.data)
		all = slices.Concat(all, b, make([]byte, 4*i))
		data = append(data, c.data...)
	}
	reads(t, "all of them, with zeros between", all, data)
}

// pieces are the parts of a stream that a test changes before it joins them.
type pieces struct {
	head, blocks, list, foot []byte
}

func (p pieces) join() []byte { return slices.Concat(p.head, p.blocks, p.list, p.foot) }

// made returns the pieces of a stream with two blocks.
func made(t *testing.T) (pieces, []byte) {
	t.Helper()
	data := samples.Few(3, 900, 3)
	o := options()
	b := pack(t, data, o)
	_, one, _ := block.Pack(data[:700], o)
	_, two, _ := block.Pack(data[700:], o)
	list, _ := index.Put([]index.Record{one, two})
	foot := len(b) - 12
	from := foot - len(list)
	return pieces{b[:12], b[12:from], list, b[foot:]}, data
}

func mustList(t *testing.T, l ...index.Record) []byte {
	t.Helper()
	b, e := index.Put(l)
	if e != api.OK {
		t.Fatal(e)
	}
	return b
}

func TestReadErrorsP20_2(t *testing.T) {
	good, data := made(t)
	reads(t, "nothing changed", good.join(), data)
	l, _, _ := index.Get(good.list)
	change := func(f func(p *pieces)) []byte {
		p := pieces{slices.Clone(good.head), slices.Clone(good.blocks), slices.Clone(good.list), slices.Clone(good.foot)}
		f(&p)
		return p.join()
	}
	for _, c := range []struct {
		name string
		b    []byte
		want api.Errno
	}{
		{"no bytes", nil, api.ErrTrunc},
		{"another magic", change(func(p *pieces) { p.head[0]++ }), api.ErrMagic},
		{"another CRC-32 in the head", change(func(p *pieces) { p.head[8]++ }), api.ErrHead},
		{"a check that is none", change(func(p *pieces) { p.head = sealedHead(2) }), api.ErrOpt},
		{"another check", change(func(p *pieces) { p.head, _ = flags.Head(api.Sha256) }), api.ErrCheck},
		{"only a head", good.head, api.ErrTrunc},
		{"a head and blocks", slices.Concat(good.head, good.blocks), api.ErrTrunc},
		{"a block that is cut", slices.Concat(good.head, good.blocks[:20]), api.ErrTrunc},
		{"a wrong head of a block", change(func(p *pieces) { p.blocks[2]++ }), api.ErrHead},
		{"wrong chunks", change(func(p *pieces) { p.blocks[16] = 3 }), api.ErrData},
		{"a wrong check of a block", change(func(p *pieces) { p.blocks[len(p.blocks)-1]++ }), api.ErrCheck},
		{"an index that is cut", slices.Concat(good.head, good.blocks, good.list[:5]), api.ErrTrunc},
		{"a wrong index", change(func(p *pieces) { p.list[2] = 1 }), api.ErrIndex},
		{"no records", change(func(p *pieces) { p.list = mustList(t) }), api.ErrIndex},
		{"a record too few", change(func(p *pieces) { p.list = mustList(t, l[0]) }), api.ErrIndex},
		{"a record too many", change(func(p *pieces) { p.list = mustList(t, l[0], l[1], l[1]) }), api.ErrIndex},
		{"records in another order", change(func(p *pieces) { p.list = mustList(t, l[1], l[0]) }), api.ErrIndex},
		{"another unpadded size", change(func(p *pieces) {
			p.list = mustList(t, l[0], index.Record{Unpadded: l[1].Unpadded + 1, Plain: l[1].Plain})
		}), api.ErrIndex},
		{"another plain size", change(func(p *pieces) {
			p.list = mustList(t, l[0], index.Record{Unpadded: l[1].Unpadded, Plain: l[1].Plain + 1})
		}), api.ErrIndex},
		{"an index that is different, and no foot", slices.Concat(good.head, good.blocks, mustList(t)), api.ErrIndex},
		{"no foot", change(func(p *pieces) { p.foot = nil }), api.ErrTrunc},
		{"a foot that is cut", change(func(p *pieces) { p.foot = p.foot[:11] }), api.ErrTrunc},
		{"another magic in the foot", change(func(p *pieces) { p.foot[11]++ }), api.ErrMagic},
		{"another CRC-32 in the foot", change(func(p *pieces) { p.foot[0]++ }), api.ErrHead},
		{"another check in the foot", change(func(p *pieces) { p.foot, _ = flags.Foot(api.Crc64, len(p.list)) }), api.ErrHead},
		{"another check and size in the foot", change(func(p *pieces) { p.foot, _ = flags.Foot(api.Crc64, 8) }), api.ErrHead},
		{"another size in the foot", change(func(p *pieces) { p.foot, _ = flags.Foot(api.Crc32, len(p.list)+4) }), api.ErrIndex},
	} {
		fails(t, c.name, c.b, c.want)
	}
	if _, e := Read(good.join(), 4095); e != api.ErrMem {
		t.Errorf("little memory: %d", e)
	}
	if got, e := Read(good.join(), 4096); e != api.OK || !slices.Equal(got, data) {
		t.Errorf("just enough memory: %d", e)
	}
}

// sealedHead makes a head with any number of a check.
func sealedHead(check byte) []byte {
	body := []byte{0, check}
	return slices.Concat([]byte{253, 55, 122, 88, 90, 0}, body, flags.Sum(api.Crc32, body))
}

func TestZerosP20_2(t *testing.T) {
	good, data := made(t)
	for n := range 13 {
		want := api.OK
		if n%4 != 0 {
			want = api.ErrData
		}
		for i, tail := range [][]byte{nil, good.join(), {1}} {
			b := slices.Concat(good.join(), make([]byte, n), tail)
			got, e := Read(b, enough)
			switch {
			case want != api.OK && e != want, want != api.OK && len(got) != 0:
				t.Errorf("%d zeros, tail %d: %d", n, i, e)
			case want == api.OK && i == 0 && (e != api.OK || !slices.Equal(got, data)):
				t.Errorf("%d zeros: %d", n, e)
			case want == api.OK && i == 1 && (e != api.OK || !slices.Equal(got, slices.Concat(data, data))):
				t.Errorf("%d zeros, and another stream: %d", n, e)
			case want == api.OK && i == 2 && (e != api.ErrTrunc || len(got) != 0):
				t.Errorf("%d zeros, and something else: %d", n, e)
			}
		}
	}
	fails(t, "zeros ahead of a stream", append(make([]byte, 4), good.join()...), api.ErrMagic)
	fails(t, "other bytes after a stream", append(good.join(), samples.Noise(1, 12)...), api.ErrMagic)
}

func TestNewMemoryP20_3(t *testing.T) {
	data := samples.Copies(5, 2000)
	o := options()
	same := slices.Clone(data)
	l, _ := Parts(data, o)
	b := pack(t, data, o)
	sameB := slices.Clone(b)
	got, _ := Read(b, enough)
	if !slices.Equal(data, same) || !slices.Equal(b, sameB) {
		t.Error("an argument changed")
	}
	for _, part := range l {
		clear(part)
		_ = append(part, 1, 2, 3)
	}
	clear(got)
	clear(b)
	if again := pack(t, data, o); !slices.Equal(data, same) || !slices.Equal(again, sameB) {
		t.Error("memory is shared")
	}
	blocks := [][]byte{{1, 2}}
	joined, _ := Join(o, blocks, []index.Record{{Unpadded: 5}})
	clear(joined)
	if !slices.Equal(blocks[0], []byte{1, 2}) {
		t.Error("a block is shared")
	}
}

func TestThereAndBackP20_4(t *testing.T) {
	var all, data []byte
	for i, n := range []int{0, 1, 2, 699, 700, 701, 5000} {
		for k, d := range samples.Kinds(n) {
			o := options()
			o.Check = []int{api.None, api.Crc32, api.Crc64, api.Sha256}[(i+k)%4]
			o.Chain = []api.Filter{{Id: api.Delta, N: 2}, {Id: api.Ppc, N: 4}, {Id: api.Arm}}[:(i+k)%4]
			o.Dict = 4096 + uint32(k)*999
			o.Block = []int{700, 1 << 40, 100, 699, 5000}[k]
			b := pack(t, d, o)
			reads(t, "a stream", b, d)
			all = slices.Concat(all, b, make([]byte, 4*((i+k)%3)))
			data = append(data, d...)
		}
	}
	reads(t, "many streams", all, data)
}

// With any bit inverted, a stream with checks is not read to other data without an error.
func TestInvertedBitsP0(t *testing.T) {
	data := samples.Few(4, 150, 4)
	o := options()
	o.Check, o.Block = api.Crc64, 100
	b := pack(t, data, o)
	for i := range len(b) * 8 {
		c := slices.Clone(b)
		c[i/8] ^= 1 << (i % 8)
		if got, e := Read(c, enough); e == api.OK && !slices.Equal(got, data) || e != api.OK && len(got) != 0 {
			t.Errorf("bit %d: %d", i, e)
		}
	}
	for cut := range b {
		fails(t, "cut", b[:cut], api.ErrTrunc)
	}
}
