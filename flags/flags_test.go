package flags

import (
	"crypto/sha256"
	"encoding/binary"
	"hash/crc32"
	"hash/crc64"
	"slices"
	"testing"

	"winepress/api"
	"winepress/samples"
)

var checks = map[int]int{api.None: 0, api.Crc32: 4, api.Crc64: 8, api.Sha256: 32}

// others returns numbers that are no checks.
func others() []int {
	l := []int{-1, 256, 257, 260, 266, 1<<63 - 1, -1 << 63}
	for i := range 256 {
		if _, ok := checks[i]; !ok {
			l = append(l, i)
		}
	}
	return l
}

func TestChecksP16_1(t *testing.T) {
	for check, size := range checks {
		if !Fine(check) || Size(check) != size {
			t.Errorf("check %d: %v, %d", check, Fine(check), Size(check))
		}
	}
	for _, check := range others() {
		if Fine(check) || Size(check) != 0 || len(Sum(check, []byte("abc"))) != 0 {
			t.Errorf("%d is not a check: %v, %d, %v", check, Fine(check), Size(check), Sum(check, []byte("abc")))
		}
	}
	for _, b := range append(samples.Kinds(300), nil) {
		digest := sha256.Sum256(b)
		for check, want := range map[int][]byte{
			api.None:   nil,
			api.Crc32:  binary.LittleEndian.AppendUint32(nil, crc32.ChecksumIEEE(b)),
			api.Crc64:  binary.LittleEndian.AppendUint64(nil, crc64.Checksum(b, crc64.MakeTable(crc64.ECMA))),
			api.Sha256: digest[:],
		} {
			if got := Sum(check, b); !slices.Equal(got, want) {
				t.Errorf("check %d: %x, not %x", check, got, want)
			}
		}
	}
}

// sealed puts a CRC-32 behind bytes, or ahead of them.
func sealed(before, body, after []byte, ahead bool) []byte {
	sum := binary.LittleEndian.AppendUint32(nil, crc32.ChecksumIEEE(body))
	if ahead {
		return slices.Concat(before, sum, body, after)
	}
	return slices.Concat(before, body, sum, after)
}

func head(flags ...byte) []byte {
	return sealed([]byte{253, 55, 122, 88, 90, 0}, flags, nil, false)
}

func foot(size uint32, flags ...byte) []byte {
	return sealed(nil, append(binary.LittleEndian.AppendUint32(nil, size), flags...), []byte{89, 90}, true)
}

func TestHeadP16_2(t *testing.T) {
	want := []byte{0xFD, 0x37, 0x7A, 0x58, 0x5A, 0x00, 0x00, 0x01, 0x69, 0x22, 0xDE, 0x36}
	if got, e := Head(api.Crc32); e != api.OK || !slices.Equal(got, want) {
		t.Errorf("the example: %X, %d", got, e)
	}
	for check := range checks {
		if got, e := Head(check); e != api.OK || !slices.Equal(got, head(0, byte(check))) {
			t.Errorf("check %d: %X, %d", check, got, e)
		}
	}
	for _, check := range others() {
		if got, e := Head(check); e != api.ErrArg || len(got) != 0 {
			t.Errorf("%d: %v, %d", check, got, e)
		}
	}
}

func TestFootP16_2(t *testing.T) {
	for check := range checks {
		for _, size := range []int{4, 8, 12, 1 << 20, 1<<34 - 4, 1 << 34} {
			if got, e := Foot(check, size); e != api.OK || !slices.Equal(got, foot(uint32(size/4-1), 0, byte(check))) {
				t.Errorf("check %d, size %d: %X, %d", check, size, got, e)
			}
		}
		for _, size := range []int{0, -4, 1, 2, 3, 5, 6, 7, 1<<34 + 4, 1<<34 + 1, 1<<63 - 4, -1 << 63} {
			if got, e := Foot(check, size); e != api.ErrArg || len(got) != 0 {
				t.Errorf("size %d: %v, %d", size, got, e)
			}
		}
	}
	for _, check := range others() {
		if got, e := Foot(check, 8); e != api.ErrArg || len(got) != 0 {
			t.Errorf("%d: %v, %d", check, got, e)
		}
	}
}

func TestReadHeadP16_3(t *testing.T) {
	good := head(0, 4)
	with := func(i int, v byte) []byte {
		b := slices.Clone(good)
		b[i] ^= v
		return b
	}
	for i, c := range []struct {
		b    []byte
		want api.Errno
	}{
		{nil, api.ErrTrunc}, {good[:11], api.ErrTrunc}, {make([]byte, 11), api.ErrTrunc}, {make([]byte, 12), api.ErrMagic},
		{with(0, 1), api.ErrMagic}, {with(5, 1), api.ErrMagic}, {with(6, 1), api.ErrHead}, {with(7, 5), api.ErrHead}, {with(8, 1), api.ErrHead}, {with(11, 128), api.ErrHead},
		{head(0, 2), api.ErrOpt}, {head(0, 3), api.ErrOpt}, {head(0, 15), api.ErrOpt}, {head(0, 16), api.ErrOpt}, {head(0, 255), api.ErrOpt}, {head(1, 4), api.ErrOpt}, {head(255, 0), api.ErrOpt},
	} {
		if got, e := ReadHead(c.b); e != c.want || got != 0 {
			t.Errorf("case %d: %d, %d", i, got, e)
		}
	}
	both := with(0, 1)
	both[8] ^= 1
	if _, e := ReadHead(both); e != api.ErrMagic { // the one that is named first
		t.Errorf("two errors: %d", e)
	}
}

func TestReadFootP16_3(t *testing.T) {
	good := foot(1, 0, 4)
	with := func(i int, v byte) []byte {
		b := slices.Clone(good)
		b[i] ^= v
		return b
	}
	for i, c := range []struct {
		b    []byte
		want api.Errno
	}{
		{nil, api.ErrTrunc}, {good[:11], api.ErrTrunc}, {make([]byte, 11), api.ErrTrunc}, {make([]byte, 12), api.ErrMagic},
		{with(10, 1), api.ErrMagic}, {with(11, 1), api.ErrMagic}, {with(0, 1), api.ErrHead}, {with(3, 1), api.ErrHead}, {with(4, 1), api.ErrHead}, {with(9, 1), api.ErrHead},
		{foot(1, 0, 2), api.ErrOpt}, {foot(1, 1, 4), api.ErrOpt}, {foot(1, 0, 255), api.ErrOpt},
	} {
		if got, size, e := ReadFoot(c.b); e != c.want || got != 0 || size != 0 {
			t.Errorf("case %d: %d, %d, %d", i, got, size, e)
		}
	}
	both := with(11, 1)
	both[0] ^= 1
	if _, _, e := ReadFoot(both); e != api.ErrMagic {
		t.Errorf("two errors: %d", e)
	}
	if got, size, e := ReadFoot(foot(1<<32-1, 0, 10)); e != api.OK || got != 10 || size != 1<<34 {
		t.Errorf("the greatest size: %d, %d, %d", got, size, e)
	}
}

func TestNewMemoryP16_4(t *testing.T) {
	b := samples.Noise(1, 50)
	same := slices.Clone(b)
	for check := range checks {
		first := Sum(check, b)
		kept := slices.Clone(first)
		clear(first)
		h, _ := Head(check)
		clear(h)
		f, _ := Foot(check, 8)
		clear(f)
		h, _ = Head(check)
		f, _ = Foot(check, 8)
		if !slices.Equal(b, same) || !slices.Equal(Sum(check, b), kept) || !slices.Equal(h, head(0, byte(check))) || !slices.Equal(f, foot(1, 0, byte(check))) {
			t.Errorf("check %d: an argument, or an earlier result, changed", check)
		}
		readH, readF := slices.Clone(h), slices.Clone(f)
		ReadHead(readH)
		ReadFoot(readF)
		if !slices.Equal(readH, h) || !slices.Equal(readF, f) {
			t.Error("what was read changed")
		}
	}
}

func TestThereAndBackP16_5(t *testing.T) {
	for check := range checks {
		h, _ := Head(check)
		for _, tail := range [][]byte{nil, {0}, {255, 255}} {
			if got, e := ReadHead(append(slices.Clone(h), tail...)); e != api.OK || got != check {
				t.Errorf("the head with %d: %d, %d", check, got, e)
			}
		}
		for _, size := range []int{4, 8, 4096, 4 * 0x81020304, 1 << 34} {
			f, _ := Foot(check, size)
			if got, many, e := ReadFoot(append(slices.Clone(f), 1, 2, 3)); e != api.OK || got != check || many != size {
				t.Errorf("the foot with %d, %d: %d, %d, %d", check, size, got, many, e)
			}
		}
	}
}

func TestInvertedBitsP16_5(t *testing.T) {
	for check := range checks {
		h, _ := Head(check)
		f, _ := Foot(check, 4096)
		for i := range 96 {
			h[i/8] ^= 1 << (i % 8)
			f[i/8] ^= 1 << (i % 8)
			_, headError := ReadHead(h)
			_, _, footError := ReadFoot(f)
			if headError == api.OK || footError == api.OK {
				t.Errorf("check %d, bit %d: %d, %d", check, i, headError, footError)
			}
			h[i/8] ^= 1 << (i % 8)
			f[i/8] ^= 1 << (i % 8)
		}
	}
}
