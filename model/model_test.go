package model

import (
	"fmt"
	"math/bits"
	"slices"
	"testing"

	"winepress/api"
	"winepress/rcdec"
	"winepress/rcenc"
	"winepress/samples"
)

// call is what a coder of bits is asked: a bit with its probability, or plain bits (n of them).
type call struct {
	chance uint16
	n      int
	v      uint32
}

// recorder is a coder of bits that writes down what it is asked.
type recorder struct{ calls []call }

func (r *recorder) Bit(chance uint16, bit int) (int, uint16) {
	r.calls = append(r.calls, call{chance: chance, v: uint32(bit)})
	return bit, moved(chance, bit)
}

func (r *recorder) Plain(v uint32, n int) uint32 {
	v &= 1<<n - 1
	r.calls = append(r.calls, call{n: n, v: v})
	return v
}

func moved(p uint16, bit int) uint16 {
	if bit == 0 {
		return p + (2048-p)/32
	}
	return p - p/32
}

// speller tells what a symbol is coded as, from the text of the document: probabilities are kept by their names.
type speller struct {
	lc, lp, pb int
	state      int
	repeats    [4]int
	chances    map[string]uint16
	calls      []call
}

func newSpeller(lc, lp, pb int) *speller {
	return &speller{lc: lc, lp: lp, pb: pb, repeats: [4]int{1, 1, 1, 1}, chances: map[string]uint16{}}
}

func (p *speller) bit(bit int, name string, parameters ...int) {
	key := fmt.Sprint(name, parameters)
	chance, ok := p.chances[key]
	if !ok {
		chance = 1024
	}
	p.calls = append(p.calls, call{chance: chance, v: uint32(bit)})
	p.chances[key] = moved(chance, bit)
}

func (p *speller) tree(v, n int, name string, parameters ...int) {
	m := 1
	for i := n - 1; i >= 0; i-- {
		p.bit(v>>i&1, name, append(slices.Clone(parameters), m)...)
		m = 2*m + v>>i&1
	}
}

func (p *speller) reverse(v, n int, name string, parameters ...int) {
	m := 1
	for i := range n {
		p.bit(v>>i&1, name, append(slices.Clone(parameters), m)...)
		m = 2*m + v>>i&1
	}
}

func (p *speller) literal(history []byte, b byte) {
	previous, like := 0, 0
	if len(history) > 0 {
		previous = int(history[len(history)-1])
	}
	if p.repeats[0] <= len(history) {
		like = int(history[len(history)-p.repeats[0]])
	}
	place, high := len(history)%(1<<p.lp), previous/(1<<(8-p.lc))
	m, same := 1, true
	for i := 7; i >= 0; i-- {
		bit, likeBit := int(b)>>i&1, like>>i&1
		index := m
		if p.state >= 7 && same {
			index = m + 256 + 256*likeBit
		}
		p.bit(bit, "literal", place, high, index)
		same = same && bit == likeBit
		m = 2*m + bit
	}
	p.state = []int{0, 0, 0, 0, 1, 2, 3, 4, 5, 6, 4, 5}[p.state]
}

func (p *speller) length(kind string, position, length int) {
	switch v := length - 2; {
	case v < 8:
		p.bit(0, kind+"choice")
		p.tree(v, 3, kind+"low", position)
	case v < 16:
		p.bit(1, kind+"choice")
		p.bit(0, kind+"other")
		p.tree(v-8, 3, kind+"mid", position)
	default:
		p.bit(1, kind+"choice")
		p.bit(1, kind+"other")
		p.tree(v-16, 8, kind+"high")
	}
}

func (p *speller) distance(length, dist int) {
	d := dist - 1
	slot, n := d, bits.Len(uint(d))
	if d >= 4 {
		slot = 2*n - 2 + d>>(n-2)&1
	}
	p.tree(slot, 6, "slot", min(length-2, 3))
	if slot < 4 {
		return
	}
	lower := d & (1<<(n-2) - 1)
	if slot < 14 {
		p.reverse(lower, n-2, "low bits", slot)
		return
	}
	p.calls = append(p.calls, call{n: n - 6, v: uint32(lower >> 4)})
	p.reverse(lower&15, 4, "align")
}

func (p *speller) symbol(history []byte, s api.Symbol) {
	position := len(history) % (1 << p.pb)
	late := 0
	if p.state >= 7 {
		late = 1
	}
	if s.Kind == api.Lit {
		p.bit(0, "match", p.state, position)
		p.literal(history, s.Byte)
		return
	}
	p.bit(1, "match", p.state, position)
	if s.Kind == api.Match {
		p.bit(0, "rep", p.state)
		p.length("match ", position, s.Len)
		p.distance(s.Len, s.Dist)
		p.repeats = [4]int{s.Dist, p.repeats[0], p.repeats[1], p.repeats[2]}
		p.state = []int{7, 10}[late]
		return
	}
	p.bit(1, "rep", p.state)
	if s.Rep == 0 {
		p.bit(0, "first", p.state)
		p.bit(min(s.Len-1, 1), "long", p.state, position)
	} else {
		p.bit(1, "first", p.state)
		p.bit(min(s.Rep-1, 1), "second", p.state)
		if s.Rep > 1 {
			p.bit(s.Rep-2, "third", p.state)
		}
	}
	if s.Len == 1 {
		p.state = []int{9, 11}[late]
		return
	}
	p.length("rep ", position, s.Len)
	others := slices.Delete(slices.Clone(p.repeats[:]), s.Rep, s.Rep+1)
	p.repeats = [4]int(append([]int{p.repeats[s.Rep]}, others...))
	p.state = []int{8, 11}[late]
}

// walk calls f with symbols that are permitted, of all kinds, each with its history.
func walk(seed, many int, repeats func() [4]int, f func(history []byte, s api.Symbol)) {
	history := samples.Noise(seed, seed%3*70000)
	for _, v := range samples.Numbers(seed, many, 1<<31) {
		length := []int{2, 3, 4, 5, 9, 10, 17, 18, 19, 273, 2 + v>>6%272}[v>>3%11]
		s := api.Symbol{Kind: v % 3, Byte: byte(v >> 8), Len: length}
		switch {
		case s.Kind == api.Match && len(history) > 0:
			s.Dist = v>>5%len(history) + 1
			if v&16 != 0 {
				s.Dist = min(s.Dist, v>>5%300+1)
			}
			f(history, api.Symbol{Kind: api.Match, Len: length, Dist: s.Dist})
		case s.Kind == api.Rep:
			s.Rep = v >> 20 % 4
			if s.Rep == 0 && v&32 != 0 {
				s.Len = 1
			}
			if repeats()[s.Rep] > len(history) {
				continue
			}
			s.Dist = repeats()[s.Rep]
			f(history, api.Symbol{Kind: api.Rep, Len: s.Len, Rep: s.Rep})
		default:
			f(history, api.Symbol{Byte: s.Byte})
			history = append(history, s.Byte)
			continue
		}
		for range s.Len {
			history = append(history, history[len(history)-s.Dist])
		}
	}
}

func properties() [][3]int {
	return [][3]int{{3, 0, 2}, {0, 0, 0}, {4, 0, 4}, {0, 4, 0}, {2, 2, 1}, {1, 3, 3}}
}

// Every bit, with its probability, is the one that the document names; so are the states and the repeats.
func TestAsSpelledP7_1(t *testing.T) {
	for seed, l := range properties() {
		c, _ := New(l[0], l[1], l[2])
		p := newSpeller(l[0], l[1], l[2])
		walk(seed, 3000, c.Repeats, func(history []byte, s api.Symbol) {
			r := &recorder{}
			p.calls = nil
			got := c.Code(r, history, s)
			p.symbol(history, s)
			if !slices.Equal(r.calls, p.calls) {
				t.Fatalf("%v after %d bytes: %v, not %v", s, len(history), r.calls, p.calls)
			}
			if got != s || c.State() != p.state || c.Repeats() != p.repeats {
				t.Fatalf("%v: %v, state %d, not %d, repeats %v, not %v", s, got, c.State(), p.state, c.Repeats(), p.repeats)
			}
		})
	}
}

// Histories that do not follow from one another: shorter than the repeats, or just as long, or empty.
func TestShortHistoriesP7_2(t *testing.T) {
	for seed, l := range properties() {
		c, _ := New(l[0], l[1], l[2])
		p := newSpeller(l[0], l[1], l[2])
		for i, v := range samples.Numbers(seed, 6000, 1<<30) {
			history := samples.Noise(i, v%4)
			s := api.Symbol{Byte: byte(v>>8%3 - 1)}
			if v>>4%3 == 0 {
				s = api.Symbol{Kind: api.Match, Len: 2, Dist: 1 + v>>6%4}
			}
			for k := range history { // few bytes, so that their probabilities are used again
				history[k] = byte(int(history[k])%3 - 1)
			}
			r := &recorder{}
			p.calls = nil
			got := c.Code(r, history, s)
			p.symbol(history, s)
			if got != s || !slices.Equal(r.calls, p.calls) {
				t.Fatalf("%v after %v: %v, not %v", s, history, r.calls, p.calls)
			}
		}
	}
}

// Distances up to the greatest, which only a recorder can be asked for without as long a history.
func TestFarDistancesP7_2(t *testing.T) {
	for i := range 32 {
		for _, dist := range []int{1 << i, 1<<i + 1, 1<<i - 1, 3 << i >> 1, 1<<i + 0x5A5A5A5A&(1<<i-1)} {
			if dist < 1 {
				continue
			}
			c, _ := New(3, 0, 2)
			p := newSpeller(3, 0, 2)
			r := &recorder{}
			s := api.Symbol{Kind: api.Match, Len: 2 + i, Dist: dist}
			got := c.Code(r, nil, s)
			p.symbol(nil, s)
			if got != s || !slices.Equal(r.calls, p.calls) {
				t.Errorf("%v: %v, %v, not %v", s, got, r.calls, p.calls)
			}
		}
	}
}

func TestNewP7_1(t *testing.T) {
	for lc := -1; lc <= 5; lc++ {
		for lp := -1; lp <= 5; lp++ {
			for pb := -1; pb <= 5; pb++ {
				want := min(lc, lp, pb) >= 0 && max(lc, lp, pb) <= 4 && lc+lp <= 4
				c, e := New(lc, lp, pb)
				if want != (e == api.OK) || want != (c != nil) || !want && e != api.ErrArg {
					t.Errorf("New(%d, %d, %d): %d", lc, lp, pb, e)
				}
			}
		}
	}
	if _, e := New(1<<63-1, 1<<63-1, 0); e != api.ErrArg {
		t.Errorf("huge: %d", e)
	}
	c, _ := New(3, 0, 2)
	if c.State() != 0 || c.Repeats() != [4]int{1, 1, 1, 1} {
		t.Error("a new coder")
	}
}

func TestExampleP7_1(t *testing.T) {
	c, _ := New(3, 0, 2)
	if e := c.Put(rcenc.New(), nil, api.Symbol{Byte: 65}); e != api.OK || c.State() != 0 {
		t.Errorf("the literal 65: %d, state %d", e, c.State())
	}
}

func TestPermittedP7_1(t *testing.T) {
	history := []byte("abcdefghij")
	huge := 1<<63 - 1
	match := func(length, dist int) api.Symbol { return api.Symbol{Kind: api.Match, Len: length, Dist: dist} }
	rep := func(length, which int) api.Symbol { return api.Symbol{Kind: api.Rep, Len: length, Rep: which} }
	for _, s := range []api.Symbol{
		match(1, 1), match(0, 1), match(274, 1), match(-huge, 1), match(huge, 1), match(2, 0), match(2, -1), match(2, 11), match(2, huge), match(2, 1<<32),
		rep(1, 1), rep(1, 2), rep(1, 3), rep(0, 0), rep(-1, 0), rep(274, 0), rep(huge, 0), rep(2, -1), rep(2, 4), rep(2, huge), rep(2, -huge),
		{Kind: 3}, {Kind: -1}, {Kind: huge},
	} {
		c, _ := New(3, 0, 2)
		enc := rcenc.New()
		if e := c.Put(enc, history, s); e != api.ErrArg || c.State() != 0 || !slices.Equal(enc.Bytes(), make([]byte, 5)) {
			t.Errorf("%v: %d", s, e)
		}
	}
	for _, s := range []api.Symbol{
		match(2, 1), match(273, 10), rep(1, 0), rep(2, 0), rep(273, 3),
		{Len: -5, Dist: 1 << 40, Rep: 9, Byte: 1}, // what a literal does not have does not count
		{Kind: api.Match, Len: 2, Dist: 1, Rep: 77}, {Kind: api.Rep, Len: 2, Dist: -4},
	} {
		c, _ := New(3, 0, 2)
		if e := c.Put(rcenc.New(), history, s); e != api.OK {
			t.Errorf("%v: %d", s, e)
		}
	}
	c, _ := New(3, 0, 2)
	if c.Put(rcenc.New(), nil, rep(1, 0)) != api.ErrArg || c.Put(rcenc.New(), nil, match(2, 1)) != api.ErrArg {
		t.Error("nothing can be repeated after no bytes")
	}
	c.Put(rcenc.New(), history, match(2, 9))
	if c.Put(rcenc.New(), history[:8], rep(2, 0)) != api.ErrArg || c.Put(rcenc.New(), history[:8], rep(2, 1)) != api.OK {
		t.Error("a repeat must not be greater than the length of the history")
	}
}

func TestNilP7_1(t *testing.T) {
	var c *Coder
	if c.Put(rcenc.New(), nil, api.Symbol{}) != api.ErrArg || c.State() != 0 || c.Repeats() != [4]int{} {
		t.Error("a nil coder")
	}
	if c.Code(&recorder{}, nil, api.Symbol{Byte: 9}) != (api.Symbol{}) {
		t.Error("a nil coder codes nothing")
	}
	some, _ := New(3, 0, 2)
	some.Put(rcenc.New(), []byte("ab"), api.Symbol{Kind: api.Match, Len: 2, Dist: 2})
	if some.Code(nil, nil, api.Symbol{Byte: 9}) != (api.Symbol{}) || some.State() != 7 || some.Repeats()[0] != 2 {
		t.Error("no coder of bits: nothing is done")
	}
	var none *rcenc.Enc
	if some.Put(none, []byte("ab"), api.Symbol{Byte: 9}) != api.OK {
		t.Error("a nil coder of bits codes nothing, but is permitted")
	}
}

// stubborn answers as it likes.
type stubborn struct {
	bit   int
	plain uint32
}

func (s stubborn) Bit(chance uint16, _ int) (int, uint16) { return s.bit, chance + 999 }
func (s stubborn) Plain(uint32, int) uint32               { return s.plain }

func TestFollowsWhatIsReturnedP7_2(t *testing.T) {
	c, _ := New(3, 0, 2)
	if got := c.Code(stubborn{}, nil, api.Symbol{Kind: api.Match, Len: 5, Dist: 5}); got != (api.Symbol{}) {
		t.Errorf("only zeros: %v", got)
	}
	if got := c.Code(stubborn{bit: 1}, nil, api.Symbol{}); got != (api.Symbol{Kind: api.Rep, Len: 273, Rep: 3}) {
		t.Errorf("only ones: %v", got)
	}
}

// No symbol, no bits and no history make it panic.
func TestAnySymbolP0(t *testing.T) {
	numbers := []int{0, 1, 2, 3, -1, 273, 274, 1 << 32, 1<<63 - 1, -1 << 63}
	for _, b := range []Bits{stubborn{}, stubborn{bit: 1, plain: 1<<32 - 1}, stubborn{bit: -7}, &recorder{}, rcenc.New(), (*rcdec.Dec)(nil), (*rcenc.Enc)(nil)} {
		c, _ := New(0, 4, 4)
		for i, v := range samples.Numbers(5, 2000, 1<<30) {
			s := api.Symbol{Kind: v%5 - 1, Byte: byte(v), Len: numbers[v>>3%10], Dist: numbers[v>>7%10], Rep: numbers[v>>11%10]}
			c.Code(b, make([]byte, i%40), s)
		}
	}
}

func TestThereAndBackP7_3(t *testing.T) {
	for seed, l := range properties() {
		c, _ := New(l[0], l[1], l[2])
		e := rcenc.New()
		type step struct {
			n int
			s api.Symbol
		}
		var steps []step
		var all []byte
		walk(seed+10, 2000, c.Repeats, func(history []byte, s api.Symbol) {
			full := s
			if s.Kind != api.Lit { // what its kind does not have must not show
				full.Byte = 200
			}
			if c.Put(e, history, full) != api.OK {
				t.Fatalf("%v is permitted", full)
			}
			all = history
			steps = append(steps, step{len(history), s})
		})
		d, _ := rcdec.New(e.Bytes())
		back, _ := New(l[0], l[1], l[2])
		for i, x := range steps {
			if got := back.Code(d, all[:x.n], api.Symbol{Kind: 1, Len: 7, Dist: 9}); got != x.s {
				t.Fatalf("step %d: %v, not %v", i, got, x.s)
			}
		}
		if !d.Done() || back.State() != c.State() || back.Repeats() != c.Repeats() {
			t.Error("not done, or not in the same state")
		}
	}
}

func TestHistoryStaysP0(t *testing.T) {
	c, _ := New(3, 0, 2)
	history := samples.Noise(1, 50)
	same := slices.Clone(history)
	c.Put(rcenc.New(), history, api.Symbol{Kind: api.Match, Len: 9, Dist: 30})
	c.Put(rcenc.New(), history, api.Symbol{Byte: 1})
	repeats := c.Repeats()
	repeats[0] = 99
	if !slices.Equal(history, same) || c.Repeats()[0] != 30 {
		t.Error("the history changed, or the repeats were handed out")
	}
}
