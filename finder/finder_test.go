package finder

import (
	"slices"
	"testing"

	"winepress/api"
	"winepress/samples"
)

func mustNew(t *testing.T, data []byte, dict, nice int) *Finder {
	t.Helper()
	f, e := New(data, dict, nice)
	if e != api.OK || f == nil {
		t.Fatalf("New(.., %d, %d): %d", dict, nice, e)
	}
	return f
}

// slowLike counts equal bytes one by one.
func slowLike(data []byte, place, dist, most int) int {
	n := 0
	for n < most && place+n < len(data) && data[place+n] == data[place+n-dist] {
		n++
	}
	return n
}

// slowBest tries each distance.
func slowBest(data []byte, dict, nice, place, most int) (int, int) {
	length, dist := 0, 0
	for d := 1; d <= min(place, dict); d++ {
		if n := slowLike(data, place, d, min(nice, most)); n > length {
			length, dist = n, d
		}
	}
	if length < 2 {
		return 0, 0
	}
	return length, dist
}

func TestNewP9_1(t *testing.T) {
	for _, c := range []struct {
		dict, nice int
		want       api.Errno
	}{
		{0, 100, api.ErrArg}, {-1, 100, api.ErrArg}, {-1 << 63, 100, api.ErrArg},
		{1, 1, api.ErrArg}, {1, 0, api.ErrArg}, {1, -1, api.ErrArg}, {1, 274, api.ErrArg}, {1, 1<<63 - 1, api.ErrArg},
		{1, 2, api.OK}, {1<<63 - 1, 273, api.OK},
	} {
		if f, e := New([]byte("abc"), c.dict, c.nice); e != c.want || (f != nil) != (e == api.OK) {
			t.Errorf("New(.., %d, %d): %d", c.dict, c.nice, e)
		}
	}
	for _, data := range [][]byte{nil, {}, {1}, {1, 1}, {1, 1, 1}, {1, 1, 1, 1}} {
		f := mustNew(t, data, 10, 10)
		for place := -1; place <= len(data)+1; place++ {
			wantLen, wantDist := 0, 0
			if place >= 0 && place < len(data) {
				wantLen, wantDist = slowBest(data, 10, 10, place, 9)
			}
			if n, d := f.Best(place, 9); n != wantLen || d != wantDist {
				t.Errorf("%v at %d: %d, %d", data, place, n, d)
			}
		}
	}
}

func TestExampleP9_1(t *testing.T) {
	f := mustNew(t, []byte("abcabcabd"), 100, 273)
	if n, d := f.Best(3, 273); n != 5 || d != 3 {
		t.Errorf("abcabcabd: at 3 length %d, distance %d", n, d)
	}
}

func TestBestP9_1(t *testing.T) {
	for _, data := range append(samples.Kinds(420), []byte("abcdabceabcfabcd"), samples.Few(9, 420, 4), slices.Repeat([]byte("abcab"), 90)) {
		for _, dict := range []int{1, 2, 7, 100, 1 << 40} {
			for _, nice := range []int{2, 3, 4, 5, 30, 273} {
				f := mustNew(t, data, dict, nice)
				for place := range data {
					for _, most := range []int{273, place % 9, 1 << 40} {
						n, d := f.Best(place, most)
						if wantN, wantD := slowBest(data, dict, nice, place, most); n != wantN || d != wantD {
							t.Fatalf("dict %d, nice %d, Best(%d, %d): %d, %d, not %d, %d", dict, nice, place, most, n, d, wantN, wantD)
						}
					}
				}
			}
		}
	}
}

func TestNoPlaceP9_1(t *testing.T) {
	f := mustNew(t, make([]byte, 50), 100, 100)
	for _, place := range []int{-1, -1 << 63, 50, 51, 1<<63 - 1, 0, 49} {
		if n, d := f.Best(place, 100); n != 0 || d != 0 {
			t.Errorf("Best(%d): %d, %d", place, n, d)
		}
	}
	for _, most := range []int{1, 0, -1, -1 << 63} {
		if n, d := f.Best(10, most); n != 0 || d != 0 {
			t.Errorf("Best(10, %d): %d, %d", most, n, d)
		}
	}
}

func TestLikeP9_2(t *testing.T) {
	for _, data := range samples.Kinds(300) {
		for _, dict := range []int{1, 50, 1000} {
			f := mustNew(t, data, dict, 2) // nice has no say here
			for place := range data {
				for _, dist := range []int{0, -1, 1, 2, 3, 50, 51, place, place + 1, place - 1, 1<<63 - 1, -1 << 63} {
					for _, most := range []int{0, 1, 2, 5, 273, 274, 1 << 50, -3} {
						want := 0
						if dist >= 1 && dist <= place && dist <= dict {
							want = slowLike(data, place, dist, min(most, 273))
						}
						if got := f.Like(place, dist, most); got != want {
							t.Fatalf("Like(%d, %d, %d): %d, not %d", place, dist, most, got, want)
						}
					}
				}
			}
		}
	}
	f := mustNew(t, make([]byte, 1000), 100, 2)
	for _, c := range [][4]int{{1, 1, 1000, 273}, {900, 1, 1000, 100}, {-1, 1, 10, 0}, {1000, 1, 10, 0}, {1<<63 - 1, 1, 10, 0}, {-1 << 63, 1, 10, 0}} {
		if got := f.Like(c[0], c[1], c[2]); got != c[3] {
			t.Errorf("Like(%d, %d, %d): %d", c[0], c[1], c[2], got)
		}
	}
}

func TestNilP9_2(t *testing.T) {
	var f *Finder
	if n, d := f.Best(0, 10); n != 0 || d != 0 || f.Like(1, 1, 10) != 0 {
		t.Error("a nil finder finds nothing")
	}
}

func TestOccursP9_3(t *testing.T) {
	const nice = 40
	for _, data := range samples.Kinds(5000) {
		f := mustNew(t, data, 3000, nice)
		for place := 0; place < len(data); place += 3 {
			most := 10 + place%50
			n, d := f.Best(place, most)
			if n == 0 {
				continue
			}
			for i := range n {
				if data[place+i] != data[place+i-d] {
					t.Fatalf("at %d, %d back: byte %d of %d is different", place, d, i, n)
				}
			}
			cut := n == min(nice, most, len(data)-place)
			if !cut && data[place+n] == data[place+n-d] {
				t.Fatalf("at %d, %d back: more than %d bytes are equal", place, d, n)
			}
		}
	}
}

// Places can be asked for in any order, and again; the bytes are neither changed nor kept.
func TestNotKeptP0(t *testing.T) {
	data := samples.Copies(5, 2000)
	same := slices.Clone(data)
	f := mustNew(t, data, 1000, 273)
	if !slices.Equal(data, same) {
		t.Error("the bytes changed")
	}
	clear(data)
	for _, place := range samples.Numbers(6, 500, 2000) {
		n, d := f.Best(place, 273)
		if wantN, wantD := slowBest(same, 1000, 273, place, 273); n != wantN || d != wantD {
			t.Fatalf("Best(%d): %d, %d, not %d, %d", place, n, d, wantN, wantD)
		}
		if d > 0 && f.Like(place, d, 273) != n {
			t.Fatalf("Like(%d, %d)", place, d)
		}
	}
}
