package delta

import (
	"slices"
	"testing"

	"winepress/api"
	"winepress/samples"
)

// slow takes each difference as the document words it.
func slow(b []byte, dist int) []byte {
	out := slices.Clone(b)
	for i := dist; i < len(b); i++ {
		out[i] = b[i] - b[i-dist]
	}
	return out
}

func TestExampleP13_1(t *testing.T) {
	if got, e := Encode([]byte{1, 3, 6, 10}, 1); e != api.OK || !slices.Equal(got, []byte{1, 2, 3, 4}) {
		t.Errorf("%v, %d", got, e)
	}
	if got, e := Decode([]byte{1, 2, 3, 4}, 1); e != api.OK || !slices.Equal(got, []byte{1, 3, 6, 10}) {
		t.Errorf("%v, %d", got, e)
	}
}

func TestEveryDistanceP13_1(t *testing.T) {
	for dist := 1; dist <= 256; dist++ {
		for _, n := range []int{0, 1, dist - 1, dist, dist + 1, 255, 256, 257, 700} {
			b := samples.Noise(dist, n)
			got, e := Encode(b, dist)
			if e != api.OK || !slices.Equal(got, slow(b, dist)) {
				t.Fatalf("%d bytes with %d: %d", n, dist, e)
			}
			if back, e := Decode(slow(b, dist), dist); e != api.OK || !slices.Equal(back, b) {
				t.Fatalf("%d bytes back with %d: %d", n, dist, e)
			}
		}
	}
}

func TestArgumentsP13_1(t *testing.T) {
	for _, dist := range []int{0, -1, 257, 512, -255, 1<<63 - 1, -1 << 63} {
		if got, e := Encode([]byte{1}, dist); e != api.ErrArg || len(got) != 0 {
			t.Errorf("Encode with %d: %v, %d", dist, got, e)
		}
		if got, e := Decode([]byte{1}, dist); e != api.ErrArg || len(got) != 0 {
			t.Errorf("Decode with %d: %v, %d", dist, got, e)
		}
	}
	if got, e := Encode(nil, 1); e != api.OK || len(got) != 0 {
		t.Errorf("no bytes: %v, %d", got, e)
	}
	if got, e := Decode(nil, 256); e != api.OK || len(got) != 0 {
		t.Errorf("no bytes: %v, %d", got, e)
	}
}

func TestNewMemoryP13_2(t *testing.T) {
	b := samples.Noise(1, 500)
	same := slices.Clone(b)
	for _, f := range []func([]byte, int) ([]byte, api.Errno){Encode, Decode} {
		got, _ := f(b, 3)
		clear(got)
		if !slices.Equal(b, same) {
			t.Error("the bytes changed, or are shared")
		}
	}
}

func TestThereAndBackP13_3(t *testing.T) {
	for _, b := range samples.Kinds(1000) {
		for _, dist := range []int{1, 2, 3, 4, 100, 255, 256} {
			there, _ := Encode(b, dist)
			if back, _ := Decode(there, dist); !slices.Equal(back, b) {
				t.Errorf("Decode does not reverse Encode with %d", dist)
			}
			back, _ := Decode(b, dist)
			if there, _ := Encode(back, dist); !slices.Equal(there, b) {
				t.Errorf("Encode does not reverse Decode with %d", dist)
			}
		}
	}
}

func TestRepeatingP13_3(t *testing.T) {
	for _, dist := range []int{1, 5, 255, 256} {
		b := slices.Repeat(samples.Noise(2, dist), 4)
		got, _ := Encode(b, dist)
		if !slices.Equal(got, append(slices.Clone(b[:dist]), make([]byte, 3*dist)...)) {
			t.Errorf("with %d: %v", dist, got)
		}
	}
}
