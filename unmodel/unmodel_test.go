package unmodel

import (
	"bytes"
	"slices"
	"testing"

	"winepress/api"
	"winepress/model"
	"winepress/rcdec"
	"winepress/rcenc"
	"winepress/samples"
)

func lit(b byte) api.Symbol               { return api.Symbol{Byte: b} }
func match(length, dist int) api.Symbol   { return api.Symbol{Kind: api.Match, Len: length, Dist: dist} }
func repeat(length, which int) api.Symbol { return api.Symbol{Kind: api.Rep, Len: length, Rep: which} }

// coded is what symbols were coded as, and the bytes that they stand for.
type coded struct {
	packed []byte
	plain  []byte
}

// write codes symbols after a history.
func write(t *testing.T, c *model.Coder, history []byte, l ...api.Symbol) coded {
	t.Helper()
	e := rcenc.New()
	all := slices.Clone(history)
	for _, s := range l {
		dist := s.Dist
		if s.Kind == api.Rep {
			dist = c.Repeats()[s.Rep]
		}
		if err := c.Put(e, all, s); err != api.OK {
			t.Fatalf("%v: %d", s, err)
		}
		if s.Kind == api.Lit {
			all = append(all, s.Byte)
			continue
		}
		for range s.Len {
			all = append(all, all[len(all)-dist])
		}
	}
	return coded{e.Bytes(), all[len(history):]}
}

func coder(t *testing.T, lc, lp, pb int) *model.Coder {
	t.Helper()
	c, e := model.New(lc, lp, pb)
	if e != api.OK {
		t.Fatal(e)
	}
	return c
}

func decoder(t *testing.T, b []byte) *rcdec.Dec {
	t.Helper()
	d, e := rcdec.New(b)
	if e != api.OK {
		t.Fatal(e)
	}
	return d
}

func TestArgumentsP8_1(t *testing.T) {
	c, d := coder(t, 3, 0, 2), decoder(t, make([]byte, 5))
	for i, f := range []func() ([]byte, api.Errno){
		func() ([]byte, api.Errno) { return Read(nil, c, nil, 0, 1) },
		func() ([]byte, api.Errno) { return Read(d, nil, nil, 0, 1) },
		func() ([]byte, api.Errno) { return Read(d, c, nil, -1, 1) },
		func() ([]byte, api.Errno) { return Read(d, c, nil, -1<<63, 1) },
		func() ([]byte, api.Errno) { return Read(d, c, nil, 0, 0) },
		func() ([]byte, api.Errno) { return Read(d, c, nil, 0, -1<<63) },
	} {
		if b, e := f(); e != api.ErrArg || len(b) != 0 {
			t.Errorf("case %d: %v, %d", i, b, e)
		}
	}
	for _, history := range [][]byte{nil, {}, []byte("abc")} {
		if b, e := Read(d, c, history, 0, 1); e != api.OK || len(b) != 0 || !d.Done() {
			t.Errorf("no bytes: %v, %d", b, e)
		}
	}
}

// read decodes with a new coder.
func read(t *testing.T, packed, history []byte, many, dict int) ([]byte, api.Errno) {
	t.Helper()
	return Read(decoder(t, packed), coder(t, 3, 0, 2), history, many, dict)
}

func TestReadsP8_1(t *testing.T) {
	history := []byte("0123456789")
	w := write(t, coder(t, 3, 0, 2), history, lit('x'), match(5, 11), repeat(1, 0), match(20, 1), repeat(3, 1), lit('y'))
	got, e := read(t, w.packed, history, len(w.plain), 11)
	if e != api.OK || !slices.Equal(got, w.plain) {
		t.Errorf("%q, %d, not %q", got, e, w.plain)
	}
}

func TestFailsP8_1(t *testing.T) {
	history := []byte("0123456789")
	far := write(t, coder(t, 3, 0, 2), history, lit('x'), match(5, 11), lit('y'))
	if b, e := read(t, far.packed, history[1:], len(far.plain), 100); e != api.ErrData || len(b) != 0 {
		t.Errorf("a distance beyond the history: %v, %d", b, e)
	}
	if b, e := read(t, far.packed, history, len(far.plain), 10); e != api.ErrData || len(b) != 0 {
		t.Errorf("a distance beyond the dictionary: %v, %d", b, e)
	}
	for many := 2; many < 6; many++ {
		if b, e := read(t, far.packed, history, many, 100); e != api.ErrData || len(b) != 0 {
			t.Errorf("a match beyond the end: %v, %d", b, e)
		}
	}
	if b, e := read(t, far.packed, history, 6, 11); e != api.OK || len(b) != 6 {
		t.Errorf("up to the end of a match: %v, %d", b, e)
	}
	// The first repeat is 1 at first, though there is nothing to repeat.
	first := write(t, coder(t, 3, 0, 2), history, repeat(1, 0))
	if b, e := read(t, first.packed, nil, 1, 100); e != api.ErrData || len(b) != 0 {
		t.Errorf("a repeat of nothing: %v, %d", b, e)
	}
	long := write(t, coder(t, 3, 0, 2), history, repeat(9, 3))
	if b, e := read(t, long.packed, history, 8, 100); e != api.ErrData || len(b) != 0 {
		t.Errorf("a repeat beyond the end: %v, %d", b, e)
	}
}

func TestOutOfBytesP8_1(t *testing.T) {
	var l []api.Symbol
	for _, v := range samples.Noise(3, 300) {
		l = append(l, lit(v))
	}
	w := write(t, coder(t, 3, 0, 2), nil, l...)
	for cut := 5; cut < len(w.packed)-4; cut += 7 {
		if b, e := read(t, w.packed[:cut], nil, 300, 1); e != api.ErrData || len(b) != 0 {
			t.Errorf("cut at %d: %v, %d", cut, b, e)
		}
	}
	if b, e := read(t, w.packed, nil, 1<<62, 1); e != api.ErrData || len(b) != 0 {
		t.Errorf("more than there is: %v, %d", b, e)
	}
}

// A repeat that is beyond the dictionary fails, but a literal after a long history still looks that far back.
func TestFarRepeatP8_1(t *testing.T) {
	history := samples.Noise(4, 5000)
	prepare := func() *model.Coder {
		c := coder(t, 1, 3, 4)
		for i := range 300 { // probabilities that differ by the byte that is as far back
			write(t, c, history[:4321+i], match(2, 4321), lit(history[i+2]))
		}
		write(t, c, history, match(2, 1), match(2, 2), match(2, 3), match(2, 4321))
		return c
	}
	for _, cut := range []int{0, 1, 3, 16, 600} {
		h := history[cut:]
		w := write(t, prepare(), h, lit(1), lit(2), match(3, 7), lit(3))
		b, e := Read(decoder(t, w.packed), prepare(), h, len(w.plain), 10)
		if e != api.OK || !slices.Equal(b, w.plain) {
			t.Errorf("%v, %d, not %v", b, e, w.plain)
		}
	}
	w := write(t, prepare(), history, repeat(2, 0))
	if b, e := Read(decoder(t, w.packed), prepare(), history, 2, 4320); e != api.ErrData || len(b) != 0 {
		t.Errorf("%v, %d", b, e)
	}
	if b, e := Read(decoder(t, w.packed), prepare(), history, 2, 4321); e != api.OK || !slices.Equal(b, w.plain) {
		t.Errorf("%v, %d", b, e)
	}
}

func TestHistoryStaysP8_2(t *testing.T) {
	room := []byte("0123456789~~~~~~~~~~~~")
	w := write(t, coder(t, 3, 0, 2), room[:10], lit('x'), match(5, 11))
	b, e := read(t, w.packed, room[:10], 6, 100)
	if e != api.OK || string(room) != "0123456789~~~~~~~~~~~~" {
		t.Errorf("the history changed: %q, %d", room, e)
	}
	clear(b)
	if string(room) != "0123456789~~~~~~~~~~~~" {
		t.Error("the result shares memory with the history")
	}
}

// Symbols of all kinds, in several calls with one coder, after histories that are longer than the dictionary.
func TestStandsForP8_3(t *testing.T) {
	for seed, l := range [][3]int{{3, 0, 2}, {0, 4, 4}, {4, 0, 0}, {2, 2, 1}} {
		const dict = 700
		w, r := coder(t, l[0], l[1], l[2]), coder(t, l[0], l[1], l[2])
		history := samples.Copies(seed, 2000+seed)
		for part := range 6 {
			symbols := some(seed*10+part, dict)
			c := write(t, w, history, symbols...)
			d := decoder(t, c.packed)
			got, e := Read(d, r, history, len(c.plain), dict)
			if e != api.OK || !bytes.Equal(got, c.plain) || !d.Done() {
				t.Fatalf("part %d: %d", part, e)
			}
			history = append(history, got...)
		}
	}
}

// some returns permitted symbols, within a dictionary.
func some(seed, dict int) []api.Symbol {
	var l []api.Symbol
	for _, v := range samples.Numbers(seed, 400, 1<<30) {
		switch v % 4 {
		case 0, 1:
			l = append(l, lit(byte(v>>3)))
		case 2:
			l = append(l, match(2+v>>3%272, 1+v>>12%dict))
		case 3:
			l = append(l, repeat(1+v>>3%2, 0))
		}
	}
	return append(l, repeat(17, 0), repeat(3, 2), repeat(2, 3), repeat(273, 1))
}
