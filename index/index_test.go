package index

import (
	"encoding/binary"
	"hash/crc32"
	"slices"
	"testing"

	"winepress/api"
	"winepress/samples"
)

const most = 1<<63 - 1

// seal puts zeros and a CRC-32 behind bytes.
func seal(b ...byte) []byte {
	for len(b)%4 != 0 {
		b = append(b, 0)
	}
	return binary.LittleEndian.AppendUint32(slices.Clone(b), crc32.ChecksumIEEE(b))
}

func TestPutP18_1(t *testing.T) {
	for i, c := range []struct {
		l    []Record
		want []byte
	}{
		{nil, seal(0, 0)},
		{[]Record{{5, 0}}, seal(0, 1, 5, 0)},
		{[]Record{{300, 0}}, seal(0, 1, 172, 2, 0)},
		{[]Record{{300, 0}, {5, 0}}, seal(0, 2, 172, 2, 0, 5, 0)},
		{[]Record{{300, 128}, {127, 1}}, seal(0, 2, 172, 2, 128, 1, 127, 1)},
		{[]Record{{most - 3, most}}, seal(0, 1, 252, 255, 255, 255, 255, 255, 255, 255, 127, 255, 255, 255, 255, 255, 255, 255, 255, 127)},
	} {
		if got, e := Put(c.l); e != api.OK || !slices.Equal(got, c.want) {
			t.Errorf("case %d: %v, %d", i, got, e)
		}
	}
	if got, _ := Put(nil); len(got) != 8 || !slices.Equal(got[:4], make([]byte, 4)) {
		t.Errorf("the example: %v", got)
	}
	many := slices.Repeat([]Record{{5, 5}}, 200)
	if got, e := Put(many); e != api.OK || !slices.Equal(got[:5], []byte{0, 200, 1, 5, 5}) {
		t.Errorf("200 records: %v, %d", got[:5], e)
	}
	for _, r := range []Record{{}, {4, 0}, {-1, 0}, {-1 << 63, 0}, {most - 2, 0}, {most, 0}, {5, -1}, {5, -1 << 63}} {
		for _, l := range [][]Record{{r}, {{5, 0}, r}, {r, {5, 0}}} {
			if got, e := Put(l); e != api.ErrArg || len(got) != 0 {
				t.Errorf("%v: %v, %d", l, got, e)
			}
		}
	}
}

func TestGetErrorsP18_2(t *testing.T) {
	otherSum := seal(0, 1, 5, 0)
	otherSum[7] ^= 1
	eight := []byte{255, 255, 255, 255, 255, 255, 255, 255}
	for i, c := range []struct {
		b    []byte
		want api.Errno
	}{
		{nil, api.ErrTrunc}, {[]byte{1}, api.ErrIndex}, {[]byte{255}, api.ErrIndex}, {[]byte{0}, api.ErrTrunc}, {[]byte{0, 128}, api.ErrTrunc}, {[]byte{0, 128, 0}, api.ErrIndex},
		{append([]byte{0}, eight...), api.ErrTrunc}, {slices.Concat([]byte{0}, eight, []byte{128}), api.ErrIndex},
		{slices.Concat([]byte{0}, eight, []byte{127}), api.ErrTrunc}, // more records than anything holds
		{slices.Concat([]byte{0}, eight, []byte{127, 5, 5, 5, 5}), api.ErrTrunc},
		{[]byte{0, 1}, api.ErrTrunc}, {[]byte{0, 1, 4}, api.ErrIndex}, {[]byte{0, 1, 0}, api.ErrIndex}, {[]byte{0, 1, 5}, api.ErrTrunc}, {[]byte{0, 1, 133, 0}, api.ErrIndex},
		{slices.Concat([]byte{0, 1, 253}, eight[1:], []byte{127}), api.ErrIndex}, {slices.Concat([]byte{0, 1, 252}, eight[1:], []byte{127}), api.ErrTrunc},
		{slices.Concat([]byte{0, 1, 5}, eight, []byte{255}), api.ErrIndex}, {[]byte{0, 1, 5, 128, 0}, api.ErrIndex},
		{[]byte{0, 0}, api.ErrTrunc}, {[]byte{0, 0, 0}, api.ErrTrunc}, {[]byte{0, 0, 1}, api.ErrIndex}, {[]byte{0, 0, 0, 9}, api.ErrIndex}, {seal(0, 0, 0, 1), api.ErrIndex},
		{seal(0, 0)[:7], api.ErrTrunc}, {seal(0, 0)[:4], api.ErrTrunc}, {[]byte{0, 0, 0, 0, 1, 1, 1}, api.ErrTrunc}, {[]byte{0, 0, 0, 0, 1, 1, 1, 1}, api.ErrIndex},
		{otherSum, api.ErrIndex}, {otherSum[:7], api.ErrTrunc},
	} {
		if l, n, e := Get(c.b); e != c.want || n != 0 || len(l) != 0 {
			t.Errorf("case %d, %v: %v, %d, %d, not %d", i, c.b, l, n, e, c.want)
		}
	}
}

func TestGetP18_2(t *testing.T) {
	l, n, e := Get(append(seal(0, 2, 172, 2, 128, 1, 127, 1), 7, 7))
	if e != api.OK || n != 12 || !slices.Equal(l, []Record{{300, 128}, {127, 1}}) {
		t.Errorf("%v, %d, %d", l, n, e)
	}
	if l, n, e := Get(seal(0, 0)); e != api.OK || n != 8 || len(l) != 0 {
		t.Errorf("no records: %v, %d, %d", l, n, e)
	}
	b := seal(0, 2, 5, 0, 200, 200, 1, 99)
	for cut := range b {
		if l, n, e := Get(b[:cut]); e != api.ErrTrunc || n != 0 || len(l) != 0 {
			t.Errorf("cut at %d: %v, %d, %d", cut, l, n, e)
		}
	}
}

func TestNewMemoryP18_3(t *testing.T) {
	l := []Record{{5, 6}, {700, 800}}
	sameL := slices.Clone(l)
	b, _ := Put(l)
	sameB := slices.Clone(b)
	got, _, _ := Get(b)
	if !slices.Equal(l, sameL) || !slices.Equal(b, sameB) {
		t.Error("an argument changed")
	}
	clear(b)
	if again, _ := Put(l); !slices.Equal(got, l) || !slices.Equal(again, sameB) {
		t.Error("memory is shared")
	}
}

func TestThereAndBackP18_4(t *testing.T) {
	for seed := range 300 {
		var l []Record
		for i, v := range samples.Numbers(seed, seed%40, 1<<31) {
			l = append(l, Record{int64(v)<<(i%32) + 5, int64(v) >> (i % 31)})
		}
		b, e := Put(l)
		if e != api.OK {
			t.Fatalf("%v: %d", l, e)
		}
		for _, tail := range [][]byte{nil, {0, 0}, {255}} {
			got, n, e := Get(append(slices.Clone(b), tail...))
			if e != api.OK || n != len(b) || !slices.Equal(got, l) {
				t.Fatalf("%v: %v, %d, %d", l, got, n, e)
			}
		}
	}
}

// What can be read is exactly what would be written.
func TestBackAndThereP18_4(t *testing.T) {
	good := 0
	for seed := range 3000 {
		body := append([]byte{0, byte(seed % 3)}, samples.Noise(seed, 2*(seed%3))...)
		b := append(seal(body...), 1, 2, 3)
		l, n, e := Get(b)
		if e != api.OK {
			continue
		}
		good++
		if again, e := Put(l); e != api.OK || !slices.Equal(again, b[:n]) {
			t.Errorf("%v: %v", b, again)
		}
	}
	if good < 1000 {
		t.Errorf("only %d were read", good)
	}
}
