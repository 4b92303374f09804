package unchunk

import (
	"bytes"
	"encoding/hex"
	"slices"
	"testing"

	"winepress/api"
	"winepress/chunks"
	"winepress/model"
	"winepress/rcenc"
	"winepress/samples"
)

const (
	zerosChunks = "e30d3f00615d00006ffdffffa3b7ff473e481572396151b89228e6a38607f9eee41e82d32fc53a3c014bb17ec98a8a4d2fa30dd97fa6e38c231153e05918c5758ae277f8b6947f0c6ac0de744964e2e95c53b204d8f7440cab5f0d6d46e9e5c37688b77f3fe7f30000"

	copiesChunks = "e01387006ecf0010ef560410ef1f91ba5d59c262366bdc23cb9c30b64968c2a1ee4fb9d34c76c81b62e3264fabcfc049933d2469e8f39297cc91df9db22a4be0dbfdc0823c16b451561e0c7ef03fa783537d59f8acb2b3d16aa3578e7f08d02cdef6c8bb3443a7ec5b6d001411d2ba615a3bd1aa0000"

	fewChunks = "e00257011e04003119d172c7bb97d530ae5cf086b12e964a28e8769fe84bff22a2f078e37602372d9816b4a3f9eb1e35120063402049a4420b7f1c493b7dc9ee834af67360199f1ef64774e8bc340cbb13c795c7c6663147e122ea3a655569c97e9265e36a41c2e46ed57cecc8a1a99caca689c01c3077822ed5ea18b9acf08a891ef2a9894bba09f0eb2d424ae47a1060cc4c58a730193ed18fab14ed15124d024b4f347b633666eaabe7844dc4ddd6ad308b9c1f5264e70869cadd03ccf5c6a5355562b72f20c8eb3e3fbb85f3a1b529f09f41fcedc267e11b0a79616b332d6ab5ce8bfe2f514bb72aeed15748fe0483b3b827cf6512005b1521f81f152858d8a2d137bdc44cb87c6ff67ac3ab983a9823c8527ca4970f3aa2e9c8a42b583093986ceffc00"
)

// Chunks that another program made: a size beyond 16 bits, and several properties.
func TestOthersChunksP12_1(t *testing.T) {
	for _, c := range []struct {
		chunks string
		want   []byte
	}{
		{zerosChunks, make([]byte, 200000)},
		{copiesChunks, samples.Copies(42, 5000)},
		{fewChunks, samples.Few(7, 600, 5)},
	} {
		b, _ := hex.DecodeString(c.chunks)
		for _, tail := range [][]byte{nil, {0}, {255, 1, 2}} {
			got, n, e := Read(append(slices.Clone(b), tail...), 4096)
			if e != api.OK || n != len(b) || !bytes.Equal(got, c.want) {
				t.Errorf("%s..: %d bytes, %d, %d", c.chunks[:20], len(got), n, e)
			}
		}
	}
}

func TestExampleP12_1(t *testing.T) {
	if got, n, e := Read([]byte{1, 0, 0, 7, 0}, 1); e != api.OK || n != 5 || !slices.Equal(got, []byte{7}) {
		t.Errorf("%v, %d, %d", got, n, e)
	}
	if got, n, e := Read([]byte{0}, 1); e != api.OK || n != 1 || len(got) != 0 {
		t.Errorf("%v, %d, %d", got, n, e)
	}
}

// part is what a test wants a chunk to be: bytes that are coded as literals, with a control byte.
type part struct {
	control byte
	text    string
}

// write makes chunks, whether they can be read or not.
func write(t *testing.T, props byte, l ...part) []byte {
	t.Helper()
	var out, history []byte
	lc, lp, pb := int(props)%9, int(props)/9%5, int(props)/45
	c, _ := model.New(lc, lp, pb)
	for _, p := range l {
		if p.control == 1 || p.control >= 224 {
			history = nil
		}
		n := len(p.text) - 1
		if p.control < 128 {
			out = append(append(out, p.control, byte(n>>8), byte(n)), p.text...)
			history = append(history, p.text...)
			continue
		}
		if p.control >= 160 {
			c, _ = model.New(lc, lp, pb)
		}
		e := rcenc.New()
		for i := range len(p.text) {
			c.Put(e, history, api.Symbol{Byte: p.text[i]})
			history = append(history, p.text[i])
		}
		m := len(e.Bytes()) - 1
		out = append(out, p.control, byte(n>>8), byte(n), byte(m>>8), byte(m))
		if p.control >= 192 {
			out = append(out, props)
		}
		out = append(out, e.Bytes()...)
	}
	return append(out, 0)
}

func TestControlBytesP12_1(t *testing.T) {
	for i, c := range []struct {
		parts []part
		want  string
		e     api.Errno
	}{
		{[]part{{224, "abc"}, {128, "defg"}, {160, "hi"}, {192, "j"}, {2, "stored"}, {128, "k"}}, "abcdefghijstoredk", api.OK},
		{[]part{{1, "abc"}, {192, "def"}, {128, "ghi"}}, "abcdefghi", api.OK},
		{[]part{{1, "abc"}, {2, "def"}, {2, "ghi"}, {224, "jkl"}, {1, "m"}, {224, "n"}, {160, "o"}}, "abcdefghijklmno", api.OK},
		{[]part{{2, "abc"}}, "", api.ErrData},
		{[]part{{128, "abc"}}, "", api.ErrData},
		{[]part{{160, "abc"}}, "", api.ErrData},
		{[]part{{192, "abc"}}, "", api.ErrData},
		{[]part{{1, "abc"}, {128, "def"}}, "", api.ErrData},
		{[]part{{1, "abc"}, {160, "def"}}, "", api.ErrData},
		{[]part{{224, "abc"}, {1, "def"}, {128, "ghi"}}, "", api.ErrData},
		{[]part{{224, "abc"}, {1, "def"}, {160, "ghi"}}, "", api.ErrData},
		{[]part{{224, "abc"}, {3, "def"}}, "", api.ErrData},
		{[]part{{224, "abc"}, {127, "def"}}, "", api.ErrData},
		{[]part{{3, "abc"}}, "", api.ErrData},
	} {
		for _, props := range []byte{93, 0, 4*45 + 4*9, 4} {
			b := write(t, props, c.parts...)
			got, n, e := Read(b, 4096)
			if e != c.e || string(got) != c.want || e == api.OK && n != len(b) || e != api.OK && n != 0 {
				t.Errorf("case %d, properties %d: %q, %d, %d", i, props, got, n, e)
			}
		}
	}
}

// An error in a control byte comes ahead of the end of the bytes after it.
func TestWhicheverIsFirstP12_1(t *testing.T) {
	start := []byte{1, 0, 0, 7}
	for _, c := range []struct {
		b    []byte
		want api.Errno
	}{
		{nil, api.ErrTrunc}, {[]byte{3}, api.ErrData}, {[]byte{127}, api.ErrData}, {[]byte{2}, api.ErrData}, {[]byte{128}, api.ErrData}, {[]byte{223}, api.ErrData},
		{[]byte{224}, api.ErrTrunc}, {[]byte{255}, api.ErrTrunc}, {[]byte{1}, api.ErrTrunc}, {[]byte{1, 0}, api.ErrTrunc}, {[]byte{1, 0, 0}, api.ErrTrunc},
		{[]byte{1, 0, 2, 7, 7}, api.ErrTrunc}, {[]byte{1, 255, 255, 7, 7}, api.ErrTrunc},
		{start, api.ErrTrunc}, {append(slices.Clone(start), 128), api.ErrData}, {append(slices.Clone(start), 191), api.ErrData},
		{append(slices.Clone(start), 192), api.ErrTrunc}, {append(slices.Clone(start), 192, 0, 0, 0, 4), api.ErrTrunc},
		{append(slices.Clone(start), 192, 0, 0, 0, 4, 225), api.ErrData}, {append(slices.Clone(start), 192, 0, 0, 0, 4, 255), api.ErrData},
		{append(slices.Clone(start), 192, 0, 0, 0, 4, 5), api.ErrData}, {append(slices.Clone(start), 192, 0, 0, 0, 4, 4+9), api.ErrData},
		{append(slices.Clone(start), 192, 0, 0, 0, 4, 224), api.ErrData}, // lc 8
		{append(slices.Clone(start), 192, 0, 0, 0, 4, 93, 1, 1, 1, 1), api.ErrTrunc},
		{append(slices.Clone(start), 192, 0, 0, 0, 4, 93, 1, 1, 1, 1, 1), api.ErrData},
		{append(slices.Clone(start), 192, 0, 0, 0, 3, 93, 0, 0, 0, 0, 0), api.ErrData}, // too few for a decoder
	} {
		if got, n, e := Read(c.b, 4096); e != c.want || n != 0 || len(got) != 0 {
			t.Errorf("%v: %v, %d, %d", c.b, got, n, e)
		}
	}
	for _, dict := range []int{0, -1, -1 << 63} {
		if got, n, e := Read(nil, dict); e != api.ErrArg || n != 0 || len(got) != 0 {
			t.Errorf("a dictionary of %d: %v, %d, %d", dict, got, n, e)
		}
	}
}

func TestEveryCutP12_1(t *testing.T) {
	b := write(t, 93, part{224, "abc"}, part{2, "xyz"}, part{160, "hello"}, part{128, "world"})
	for cut := range b {
		if got, n, e := Read(b[:cut], 4096); e != api.ErrTrunc || n != 0 || len(got) != 0 {
			t.Errorf("cut at %d: %v, %d, %d", cut, got, n, e)
		}
	}
}

// A chunk whose bits are not all used, or that says more than it has, is an error.
func TestNotDoneP12_1(t *testing.T) {
	b := write(t, 93, part{224, "abcdef"})
	for _, size := range []byte{0, 4, 6, 9} {
		c := slices.Clone(b)
		c[2] = size
		if _, _, e := Read(c, 4096); e != api.ErrData {
			t.Errorf("size %d: %d", size, e)
		}
	}
	c := slices.Insert(slices.Clone(b), len(b)-1, 0)
	c[4]++
	if _, _, e := Read(c, 4096); e != api.ErrData {
		t.Errorf("a byte too many: %d", e)
	}
}

// The history is cleared: what was before can no longer be referred to; and neither can what is beyond the dictionary.
func TestHistoryP12_1(t *testing.T) {
	build := func(control byte, dist int) []byte {
		history := []byte("abcdef")
		out := append([]byte{1, 0, 5}, history...)
		if control >= 224 {
			history = nil
		}
		c, _ := model.New(3, 0, 2)
		e := rcenc.New()
		c.Put(e, history, api.Symbol{Byte: 'g'})
		c.Code(e, append(history, 'g'), api.Symbol{Kind: api.Match, Len: 3, Dist: dist})
		n := byte(len(e.Bytes()) - 1)
		out = append(out, control, 0, 3, 0, n, 93)
		return append(append(out, e.Bytes()...), 0)
	}
	for _, c := range []struct {
		control    byte
		dist, dict int
		want       string
		e          api.Errno
	}{
		{192, 7, 4096, "abcdefgabc", api.OK}, {192, 7, 7, "abcdefgabc", api.OK}, {192, 7, 6, "", api.ErrData}, {192, 8, 4096, "", api.ErrData},
		{224, 7, 4096, "", api.ErrData}, {224, 2, 4096, "", api.ErrData}, {224, 1, 4096, "abcdefgggg", api.OK}, {192, 1 << 32, 4096, "", api.ErrData},
	} {
		got, _, e := Read(build(c.control, c.dist), c.dict)
		if e != c.e || string(got) != c.want {
			t.Errorf("%v: %q, %d", c, got, e)
		}
	}
}

func TestNewMemoryP12_2(t *testing.T) {
	b := write(t, 93, part{1, "stored"}, part{192, "packed"})
	same := slices.Clone(b)
	got, _, _ := Read(b, 4096)
	if !slices.Equal(b, same) {
		t.Error("the bytes changed")
	}
	clear(got)
	clear(b)
	if got, _, _ := Read(same, 4096); string(got) != "storedpacked" {
		t.Error("an earlier result, or argument, has an effect")
	}
}

func TestThereAndBackP12_3(t *testing.T) {
	for i, l := range [][3]int{{3, 0, 2}, {0, 4, 4}, {4, 0, 0}, {1, 2, 3}} {
		for _, chunk := range []int{1, 30, 1000, 65536} {
			o := api.Options{Lc: l[0], Lp: l[1], Pb: l[2], Nice: 2 + i*90, Chunk: chunk, Dict: 4096}
			mixed := slices.Concat(samples.Noise(i, 1500), samples.Few(i, 1500, 2), samples.Noise(i, 800), samples.Copies(i, 5000))
			for _, data := range append(samples.Kinds(6000), mixed, nil, []byte{9}) {
				b, _ := chunks.Pack(data, o)
				for _, dict := range []int{4096, 1 << 26} {
					got, n, e := Read(append(slices.Clone(b), samples.Noise(i, 10)...), dict)
					if e != api.OK || n != len(b) || !bytes.Equal(got, data) {
						t.Fatalf("%v: %d bytes, %d, %d", o, len(got), n, e)
					}
				}
			}
		}
	}
}

// Whatever the bytes are, the call returns.
func TestAnyBytesP0(t *testing.T) {
	b := write(t, 93, part{224, "abcabcabc"}, part{2, "xyz"}, part{160, "hello hello"}, part{128, "world"})
	for i := range b {
		for bit := range 8 {
			c := slices.Clone(b)
			c[i] ^= 1 << bit
			if got, n, e := Read(c, 4096); e != api.OK && (len(got) != 0 || n != 0 || e != api.ErrData && e != api.ErrTrunc) {
				t.Errorf("bit %d of byte %d: %v, %d, %d", bit, i, got, n, e)
			}
		}
	}
	for seed := range 2000 {
		c := samples.Noise(seed, 60)
		c[0] |= 224
		c[3], c[4], c[5], c[6] = 0, 20, 93, 0
		Read(c, 1+seed)
	}
}
