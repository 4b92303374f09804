package parse

import (
	"slices"
	"testing"

	"winepress/api"
	"winepress/finder"
	"winepress/model"
	"winepress/rcenc"
	"winepress/samples"
)

var atFirst = [4]int{1, 1, 1, 1}

func finderFor(t *testing.T, data []byte, dict, nice int) *finder.Finder {
	t.Helper()
	f, e := finder.New(data, dict, nice)
	if e != api.OK {
		t.Fatal(e)
	}
	return f
}

// symbols parses all of data.
func symbols(t *testing.T, data []byte, dict, nice int) []api.Symbol {
	t.Helper()
	l, _, e := Symbols(finderFor(t, data, dict, nice), data, 0, len(data), atFirst)
	if e != api.OK {
		t.Fatal(e)
	}
	return l
}

func lit(b byte) api.Symbol               { return api.Symbol{Byte: b} }
func match(length, dist int) api.Symbol   { return api.Symbol{Kind: api.Match, Len: length, Dist: dist} }
func repeat(length, which int) api.Symbol { return api.Symbol{Kind: api.Rep, Len: length, Rep: which} }

func TestArgumentsP10_1(t *testing.T) {
	data := []byte("aaaa")
	f := finderFor(t, data, 10, 10)
	huge := 1<<63 - 1
	for i, c := range []struct {
		f        *finder.Finder
		from, to int
	}{{nil, 0, 4}, {f, -1, 4}, {f, -huge, 4}, {f, 3, 2}, {f, 0, 5}, {f, 0, huge}, {f, 5, 5}, {f, 0, -huge}} {
		if l, r, e := Symbols(c.f, data, c.from, c.to, atFirst); e != api.ErrArg || len(l) != 0 || r != [4]int{} {
			t.Errorf("case %d: %v, %v, %d", i, l, r, e)
		}
	}
	for place := range 5 {
		if l, r, e := Symbols(f, data, place, place, [4]int{4, 3, 2, 1}); e != api.OK || len(l) != 0 || r != [4]int{4, 3, 2, 1} {
			t.Errorf("nothing, at %d: %v, %v, %d", place, l, r, e)
		}
	}
}

func TestChoicesP10_1(t *testing.T) {
	far := samples.Noise(1, 200)
	for i := range far { // no byte of these occurs in what follows
		far[i] |= 128
	}
	for _, c := range []struct {
		name string
		data string
		want []api.Symbol
	}{
		{"the example", "aaaa", []api.Symbol{lit('a'), repeat(3, 0)}},
		{"one repeated byte", "abb", []api.Symbol{lit('a'), lit('b'), repeat(1, 0)}},
		{"a match", "abcabc", []api.Symbol{lit('a'), lit('b'), lit('c'), match(3, 3)}},
		{"a match of two bytes", "abab", []api.Symbol{lit('a'), lit('b'), match(2, 2)}},
		{"a second repeat", "abcdabc_ef_ef", []api.Symbol{
			lit('a'), lit('b'), lit('c'), lit('d'), match(3, 4), lit('_'), lit('e'), lit('f'), match(3, 3)}},
		{"nothing", "abcdef", []api.Symbol{lit('a'), lit('b'), lit('c'), lit('d'), lit('e'), lit('f')}},
	} {
		if got := symbols(t, []byte(c.data), 1000, 273); !slices.Equal(got, c.want) {
			t.Errorf("%s: %v, not %v", c.name, got, c.want)
		}
	}
	for _, gap := range []int{126, 127} { // a distance of 128, and of 129
		data := slices.Concat([]byte("xy"), far[:gap], []byte("xy"))
		last := symbols(t, data, 1000, 273)
		if gap == 126 && last[len(last)-1] != match(2, 128) || gap == 127 && last[len(last)-1] != lit('y') {
			t.Errorf("two bytes, %d back: %v", gap+2, last[len(last)-1])
		}
	}
	data := slices.Concat([]byte("xyz"), far[:190], []byte("xyz"))
	if last := symbols(t, data, 1000, 273); last[len(last)-1] != match(3, 193) {
		t.Errorf("three bytes, 193 back: %v", last[len(last)-1])
	}
}

// A repeat that is one byte shorter than the best match is taken, one that is two bytes shorter is not.
func TestRepeatOrMatchP10_1(t *testing.T) {
	data := []byte("pqrstu--pqrs..ppq!pqrstuv")
	f := finderFor(t, data, 1000, 273)
	at := 18 // pqrstu: 6 bytes 18 back, 4 bytes 10 back, 2 bytes 3 back
	for _, c := range []struct {
		repeats [4]int
		most    int
		want    api.Symbol
	}{
		{[4]int{10, 10, 10, 10}, 6, match(6, 18)},
		{[4]int{10, 10, 10, 10}, 5, repeat(4, 0)},
		{[4]int{10, 10, 10, 10}, 4, repeat(4, 0)},
		{[4]int{3, 4, 10, 5}, 5, repeat(4, 2)},
		{[4]int{3, 4, 10, 5}, 3, repeat(3, 2)},
		{[4]int{3, 10, 18, 10}, 2, repeat(2, 0)},
		{[4]int{0, -1, 18, 1 << 62}, 7, repeat(6, 2)},
		{[4]int{7, 7, 7, 7}, 1, lit('p')},
		{[4]int{3, 7, 7, 7}, 1, repeat(1, 0)},
		{[4]int{7, 3, 3, 3}, 1, lit('p')},
	} {
		l, r, e := Symbols(f, data, at, at+c.most, c.repeats)
		if e != api.OK || len(l) == 0 || l[0] != c.want {
			t.Errorf("%v, %d bytes: %v, %d, not %v", c.repeats, c.most, l, e, c.want)
		}
		if len(l) == 1 && c.want.Kind == api.Match && r != [4]int{18, 10, 10, 10} || len(l) == 1 && c.want == repeat(4, 2) && r != [4]int{10, 3, 4, 5} {
			t.Errorf("%v: the repeats are %v", c.repeats, r)
		}
	}
}

// expand returns the bytes that symbols stand for, after a history.
func expand(history []byte, l []api.Symbol, repeats [4]int) ([]byte, [4]int) {
	all := slices.Clone(history)
	for _, s := range l {
		switch s.Kind {
		case api.Lit:
			all = append(all, s.Byte)
			continue
		case api.Match:
			repeats = [4]int{s.Dist, repeats[0], repeats[1], repeats[2]}
		case api.Rep:
			dist := repeats[s.Rep]
			rest := slices.Delete(slices.Clone(repeats[:]), s.Rep, s.Rep+1)
			repeats = [4]int(append([]int{dist}, rest...))
		}
		for range s.Len {
			all = append(all, all[len(all)-repeats[0]])
		}
	}
	return all[len(history):], repeats
}

func TestStandForBytesP10_3(t *testing.T) {
	for _, data := range samples.Kinds(3000) {
		for _, dict := range []int{1, 100, 5000} {
			for _, nice := range []int{2, 5, 273} {
				f := finderFor(t, data, dict, nice)
				repeats := atFirst
				from := 0
				c, _ := model.New(3, 0, 2)
				e := rcenc.New()
				for _, to := range []int{0, 1, 2, 700, 701, 2500, 3000} {
					l, next, err := Symbols(f, data, from, to, repeats)
					got, want := expand(data[:from], l, repeats)
					if err != api.OK || !slices.Equal(got, data[from:to]) || next != want {
						t.Fatalf("from %d to %d: %d, repeats %v, not %v", from, to, err, next, want)
					}
					place := from
					for _, s := range l { // each one is permitted
						if c.Put(e, data[:place], s) != api.OK || s.Kind == api.Match && s.Dist > dict {
							t.Fatalf("%v at %d is not permitted", s, place)
						}
						place += max(s.Len, 1)
					}
					if c.Repeats() != next {
						t.Fatalf("repeats %v, not %v", next, c.Repeats())
					}
					from, repeats = to, next
				}
			}
		}
	}
}

// slow chooses a symbol as the document words it, by the calls of the finder alone.
func slow(f *finder.Finder, data []byte, place, left int, repeats [4]int) api.Symbol {
	likes := []int{}
	for _, d := range repeats {
		likes = append(likes, f.Like(place, d, left))
	}
	best := slices.Max(likes)
	length, dist := f.Best(place, left)
	if best >= 2 && best+1 >= length {
		return repeat(best, slices.Index(likes, best))
	}
	if length > 0 && (length >= 3 || dist <= 128) {
		return match(length, dist)
	}
	if likes[0] >= 1 {
		return repeat(1, 0)
	}
	return lit(data[place])
}

func TestEachChoiceP10_1(t *testing.T) {
	for _, data := range append(samples.Kinds(2000), samples.Few(7, 2000, 6)) {
		f := finderFor(t, data, 1500, 100)
		repeats := atFirst
		for place := 0; place < len(data); {
			left := min(len(data)-place, 1+place%97)
			l, _, _ := Symbols(f, data, place, place+left, repeats)
			want := slow(f, data, place, left, repeats)
			if l[0] != want {
				t.Fatalf("at %d: %v, not %v", place, l[0], want)
			}
			_, repeats = expand(data[:place], l[:1], repeats)
			place += max(want.Len, 1)
		}
	}
}

func TestNewMemoryP10_2(t *testing.T) {
	data := samples.Copies(3, 500)
	same := slices.Clone(data)
	f := finderFor(t, data, 1000, 100)
	l, _, _ := Symbols(f, data, 0, len(data), atFirst)
	clear(l)
	again, _, _ := Symbols(f, data, 0, len(data), atFirst)
	if got, _ := expand(nil, again, atFirst); !slices.Equal(data, same) || !slices.Equal(got, data) {
		t.Error("data, or an earlier result, changed")
	}
}

// A finder for other bytes gives symbols without sense, but as many as there are bytes for.
func TestOtherFinderP0(t *testing.T) {
	data := samples.Noise(2, 100)
	for _, other := range [][]byte{nil, make([]byte, 10), make([]byte, 1000)} {
		l, _, e := Symbols(finderFor(t, other, 50, 50), data, 0, len(data), [4]int{-5, 0, 1 << 62, 3})
		n := 0
		for _, s := range l {
			n += max(s.Len, 1)
		}
		if e != api.OK || n != len(data) {
			t.Errorf("%d bytes, %d", n, e)
		}
	}
}
