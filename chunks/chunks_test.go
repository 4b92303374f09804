package chunks

import (
	"bytes"
	"slices"
	"testing"

	"winepress/api"
	"winepress/finder"
	"winepress/model"
	"winepress/parse"
	"winepress/rcenc"
	"winepress/samples"
)

func options() api.Options {
	return api.Options{Lc: 3, Lp: 0, Pb: 2, Nice: 64, Chunk: 1000, Dict: 4096}
}

func pack(t *testing.T, data []byte, o api.Options) []byte {
	t.Helper()
	b, e := Pack(data, o)
	if e != api.OK {
		t.Fatalf("%v: %d", o, e)
	}
	return b
}

func TestFineP11_1(t *testing.T) {
	huge := 1<<63 - 1
	for i, f := range []func(o *api.Options){
		func(o *api.Options) { o.Lc = -1 }, func(o *api.Options) { o.Lc = 5 }, func(o *api.Options) { o.Lp = 2 },
		func(o *api.Options) { o.Lp = -1 }, func(o *api.Options) { o.Pb = 5 }, func(o *api.Options) { o.Pb = -huge },
		func(o *api.Options) { o.Nice = 1 }, func(o *api.Options) { o.Nice = 274 }, func(o *api.Options) { o.Nice = huge },
		func(o *api.Options) { o.Chunk = 0 }, func(o *api.Options) { o.Chunk = 65537 }, func(o *api.Options) { o.Chunk = -huge },
		func(o *api.Options) { o.Dict = 4095 }, func(o *api.Options) { o.Dict = 1<<26 + 1 }, func(o *api.Options) { o.Dict = 0 },
		func(o *api.Options) { o.Dict = 1<<32 - 1 },
	} {
		o := options()
		f(&o)
		if b, e := Pack([]byte("abc"), o); Fine(o) || e != api.ErrArg || len(b) != 0 {
			t.Errorf("case %d: %v, %v, %d", i, o, b, e)
		}
	}
	for i, f := range []func(o *api.Options){
		func(o *api.Options) {}, func(o *api.Options) { o.Lc, o.Lp, o.Pb = 4, 0, 4 }, func(o *api.Options) { o.Lc, o.Lp, o.Pb = 0, 4, 0 },
		func(o *api.Options) { o.Nice = 2 }, func(o *api.Options) { o.Nice = 273 },
		func(o *api.Options) { o.Chunk = 1 }, func(o *api.Options) { o.Chunk = 65536 },
		func(o *api.Options) { o.Dict = 1 << 26 },
		func(o *api.Options) { o.Block, o.Check, o.Chain = -5, 77, []api.Filter{{Id: 99}} }, // these have no effect here
	} {
		o := options()
		f(&o)
		if b, e := Pack([]byte("abc"), o); !Fine(o) || e != api.OK || len(b) == 0 {
			t.Errorf("case %d: %v, %v, %d", i, o, b, e)
		}
	}
	if Fine(api.Options{}) {
		t.Error("no options")
	}
}

func TestExamplesP11_1(t *testing.T) {
	for _, c := range []struct{ data, want []byte }{
		{nil, []byte{0}}, {[]byte{}, []byte{0}}, {[]byte{7}, []byte{1, 0, 0, 7, 0}},
	} {
		if got := pack(t, c.data, options()); !slices.Equal(got, c.want) {
			t.Errorf("%v: %v", c.data, got)
		}
	}
}

// slow makes chunks as the document words it.
func slow(data []byte, o api.Options) []byte {
	f, _ := finder.New(data, int(o.Dict), o.Nice)
	var out []byte
	var coder *model.Coder
	first, props, storedBefore := true, false, true
	for from := 0; from < len(data); from += o.Chunk {
		part := data[from:min(from+o.Chunk, len(data))]
		if storedBefore {
			coder, _ = model.New(o.Lc, o.Lp, o.Pb)
		}
		l, _, _ := parse.Symbols(f, data, from, from+len(part), coder.Repeats())
		e := rcenc.New()
		at := from
		for _, s := range l {
			coder.Put(e, data[:at], s)
			at += max(1, s.Len)
		}
		result := e.Bytes()
		size, small := len(part)-1, len(result)-1
		control := 128
		if storedBefore {
			control = 160
		}
		if !props {
			control = 192
		}
		if first {
			control = 224
		}
		chunk := []byte{byte(control), byte(size / 256), byte(size % 256), byte(small / 256), byte(small % 256)}
		if control >= 192 {
			chunk = append(chunk, byte(o.Lc+9*(o.Lp+5*o.Pb)))
		}
		chunk = append(chunk, result...)
		storedBefore = len(chunk) >= len(part)+3 || len(result) > 65536
		if storedBefore {
			control = 2
			if first {
				control = 1
			}
			chunk = append([]byte{byte(control), byte(size / 256), byte(size % 256)}, part...)
		} else {
			props = true
		}
		out = append(out, chunk...)
		first = false
	}
	return append(out, 0)
}

// mixed has parts that can be packed, and such as cannot, in every order.
func mixed(part int, pattern string) []byte {
	var out []byte
	for i, v := range pattern {
		if v == 's' {
			out = append(out, samples.Noise(i, part)...)
		} else {
			out = append(out, samples.Few(i, part, 3)...)
		}
	}
	return out
}

// controls returns the control bytes of chunks.
func controls(b []byte) []int {
	var l []int
	for {
		l = append(l, int(b[0]))
		switch {
		case b[0] == 0:
			return l
		case b[0] < 128:
			b = b[3+(int(b[1])<<8|int(b[2]))+1:]
		default:
			n := 5 + (int(b[3])<<8 | int(b[4])) + 1
			if b[0] >= 192 {
				n++
			}
			b = b[n:]
		}
	}
}

func TestControlBytesP11_1(t *testing.T) {
	for pattern, want := range map[string][]int{
		"p": {224, 0}, "s": {1, 0}, "pp": {224, 128, 0}, "sp": {1, 192, 0}, "ssp": {1, 2, 192, 0}, "spp": {1, 192, 128, 0},
		"psp": {224, 2, 160, 0}, "spsp": {1, 192, 2, 160, 0}, "pssppsp": {224, 2, 2, 160, 128, 2, 160, 0},
	} {
		for _, extra := range []int{0, 1} {
			data := mixed(1000, pattern)
			want := slices.Clone(want)
			if extra == 1 { // a last part of one byte is always stored
				data = append(data, 5)
				want = append(want[:len(want)-1], 2, 0)
			}
			if got := controls(pack(t, data, options())); !slices.Equal(got, want) {
				t.Errorf("%s: %v, not %v", pattern, got, want)
			}
		}
	}
}

func TestAsChunksP11_1(t *testing.T) {
	all := append(samples.Kinds(3000), mixed(1000, "pspps"), mixed(1000, "sspsp"), samples.Noise(3, 999), samples.Noise(4, 1001))
	for _, data := range all {
		for _, f := range []func(o *api.Options){
			func(o *api.Options) {}, func(o *api.Options) { o.Lc, o.Lp, o.Pb = 0, 4, 4 }, func(o *api.Options) { o.Lc, o.Lp, o.Pb = 1, 2, 0 },
			func(o *api.Options) { o.Chunk = 50 }, func(o *api.Options) { o.Chunk = 7 }, func(o *api.Options) { o.Chunk = 65536 }, func(o *api.Options) { o.Nice = 2 },
		} {
			o := options()
			f(&o)
			if got := pack(t, data, o); !bytes.Equal(got, slow(data, o)) {
				t.Errorf("%v: different chunks", o)
			}
		}
	}
}

// Parts whose chunk is just as long as a stored one, or one byte shorter.
func TestEdgeOfStoringP11_1(t *testing.T) {
	shorter, same := 0, 0
	for seed := range 1500 {
		data := samples.Few(seed, 12+seed%60, 2+seed%9)
		b := pack(t, data, options())
		if !bytes.Equal(b, slow(data, options())) {
			t.Fatalf("%q: different", data)
		}
		c, _ := model.New(3, 0, 2)
		f, _ := finder.New(data, 4096, 64)
		l, _, _ := parse.Symbols(f, data, 0, len(data), c.Repeats())
		e := rcenc.New()
		at := 0
		for _, s := range l {
			c.Put(e, data[:at], s)
			at += max(1, s.Len)
		}
		switch 6 + len(e.Bytes()) - len(data) {
		case 3:
			same++
			if b[0] != 1 {
				t.Errorf("%q must be stored", data)
			}
		case 2:
			shorter++
			if b[0] != 224 {
				t.Errorf("%q must not be stored", data)
			}
		}
	}
	if shorter == 0 || same == 0 {
		t.Errorf("%d and %d such parts", shorter, same)
	}
}

// The greatest parts, of which both sizes need all their bits.
func TestGreatPartsP11_1(t *testing.T) {
	o := options()
	o.Chunk = 65536
	data := slices.Concat(samples.Noise(1, 65536), samples.Few(2, 65536, 200), samples.Noise(3, 65536), samples.Few(5, 100, 3))
	b := pack(t, data, o)
	if !bytes.Equal(b, slow(data, o)) {
		t.Error("different chunks")
	}
	if !slices.Equal(b[:3], []byte{1, 255, 255}) {
		t.Errorf("the first part: %v", b[:3])
	}
}

func TestNewMemoryP11_2(t *testing.T) {
	data := mixed(1000, "ps")
	same := slices.Clone(data)
	b := pack(t, data, options())
	clear(b)
	if !slices.Equal(data, same) || !bytes.Equal(pack(t, data, options()), slow(data, options())) {
		t.Error("data, or an earlier result, changed")
	}
}

func TestLengthP11_3(t *testing.T) {
	for _, n := range []int{0, 1, 2, 20, 999, 1000, 1001, 5000} {
		for _, data := range samples.Kinds(n) {
			for _, chunk := range []int{1, 3, 100, 1000, 65536} {
				o := options()
				o.Chunk = chunk
				most := n + 3*((n+chunk-1)/chunk) + 1
				if got := len(pack(t, data, o)); got > most {
					t.Errorf("%d bytes, chunks of %d: %d bytes, more than %d", n, chunk, got, most)
				}
			}
		}
	}
	if got := len(pack(t, make([]byte, 60000), options())); got > 1500 {
		t.Errorf("zeros: %d bytes", got)
	}
}
