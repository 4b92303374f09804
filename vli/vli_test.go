package vli

import (
	"slices"
	"testing"

	"winepress/api"
	"winepress/samples"
)

// edges returns the numbers around each power of two.
func edges() []uint64 {
	var l []uint64
	for i := range 64 {
		l = append(l, 1<<i-1, 1<<i, 1<<i+1)
	}
	return l
}

func TestPutP4_1(t *testing.T) {
	for _, c := range []struct {
		n    uint64
		want []byte
	}{
		{0, []byte{0}}, {1, []byte{1}}, {127, []byte{127}}, {128, []byte{128, 1}}, {300, []byte{172, 2}},
		{16383, []byte{255, 127}}, {16384, []byte{128, 128, 1}},
		{Most, []byte{255, 255, 255, 255, 255, 255, 255, 255, 127}},
	} {
		if got, e := Put(c.n); e != api.OK || !slices.Equal(got, c.want) {
			t.Errorf("Put(%d): %v, %d", c.n, got, e)
		}
	}
	for _, n := range []uint64{Most + 1, Most + 2, ^uint64(0)} {
		if got, e := Put(n); e != api.ErrArg || len(got) != 0 {
			t.Errorf("Put(%d): %v, %d", n, got, e)
		}
	}
}

func TestGetP4_2(t *testing.T) {
	nine := slices.Repeat([]byte{128}, 9)
	for _, c := range []struct {
		b    []byte
		n    uint64
		many int
		want api.Errno
	}{
		{nil, 0, 0, api.ErrTrunc},
		{[]byte{128}, 0, 0, api.ErrTrunc},
		{[]byte{255, 255, 255}, 0, 0, api.ErrTrunc},
		{nine[:8], 0, 0, api.ErrTrunc},
		{nine, 0, 0, api.ErrData},
		{append(slices.Clone(nine), 1), 0, 0, api.ErrData},
		{append(slices.Clone(nine[:8]), 255), 0, 0, api.ErrData},
		{append(slices.Clone(nine[:8]), 0), 0, 0, api.ErrData},
		{append(slices.Clone(nine[:8]), 1), 1 << 56, 9, api.OK},
		{append(slices.Clone(nine[:8]), 127), 127 << 56, 9, api.OK},
		{[]byte{128, 0}, 0, 0, api.ErrData},
		{[]byte{129, 128, 0, 5}, 0, 0, api.ErrData},
		{[]byte{0}, 0, 1, api.OK},
		{[]byte{0, 0}, 0, 1, api.OK},
		{[]byte{172, 2, 255}, 300, 2, api.OK},
	} {
		if n, many, e := Get(c.b); n != c.n || many != c.many || e != c.want {
			t.Errorf("Get(%v): %d, %d, %d", c.b, n, many, e)
		}
	}
}

func TestThereAndBackP4_3(t *testing.T) {
	for _, n := range edges() {
		if n > Most {
			continue
		}
		b, e := Put(n)
		if e != api.OK {
			t.Fatalf("Put(%d): %d", n, e)
		}
		for _, tail := range [][]byte{nil, {0}, {255, 255}, samples.Noise(1, 12)} {
			all := append(slices.Clone(b), tail...)
			if got, many, e := Get(all); got != n || many != len(b) || e != api.OK {
				t.Errorf("Get(%v): %d, %d, %d", all, got, many, e)
			}
		}
	}
}

func TestBackAndThereP4_3(t *testing.T) {
	good := 0
	for seed := range 3000 {
		b := samples.Noise(seed, 12)
		for i := range seed % 9 { // longer numbers than noise would have
			b[i] |= 128
		}
		c := slices.Clone(b)
		n, many, e := Get(b)
		if !slices.Equal(b, c) {
			t.Fatalf("Get(%v) changed its bytes", c)
		}
		if e != api.OK {
			continue
		}
		good++
		if again, e := Put(n); e != api.OK || !slices.Equal(again, b[:many]) {
			t.Errorf("Get(%v) read %d, of which Put makes %v", b, n, again)
		}
	}
	if good < 1000 {
		t.Errorf("only %d were read", good)
	}
}
