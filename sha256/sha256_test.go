package sha256

import (
	stdsha "crypto/sha256"
	"encoding/hex"
	"math/big"
	"slices"
	"testing"

	"winepress/samples"
)

func TestSumP3_1(t *testing.T) {
	for text, want := range map[string]string{
		"":    "e3b0c44298fc1c149afbf4c8996fb92427ae41e4649b934ca495991b7852b855",
		"abc": "ba7816bf8f01cfea414140de5dae2223b00361a396177a9cb410ff61f20015ad",
		"abcdbcdecdefdefgefghfghighijhijkijkljklmklmnlmnomnopnopq": "248d6a61d20638b8e5c026930c3e6039a33ce45964ff2167f6ecedd419db06c1",
	} {
		got := Sum([]byte(text))
		if hex.EncodeToString(got[:]) != want {
			t.Errorf("Sum(%q): %x", text, got)
		}
	}
	for n := range 200 { // all lengths around the edges of the padding
		for _, b := range samples.Kinds(n) {
			if got, want := Sum(b), stdsha.Sum256(b); got != want {
				t.Errorf("%d bytes: %x, not %x", n, got, want)
			}
		}
	}
	b := samples.Noise(1, 100001)
	if got, want := Sum(b), stdsha.Sum256(b); got != want {
		t.Errorf("long: %x, not %x", got, want)
	}
}

// The constants, from their definition: the first 32 bits behind the point of roots of primes.
func TestConstantsP3_1(t *testing.T) {
	i := 0
	for n := int64(2); i < 64; n++ {
		if !big.NewInt(n).ProbablyPrime(10) {
			continue
		}
		if i < 8 {
			root := new(big.Int).Sqrt(new(big.Int).Lsh(big.NewInt(n), 64))
			if uint32(root.Uint64()) != firstWords[i] {
				t.Errorf("p(%d)", i)
			}
		}
		cube := new(big.Int).Lsh(big.NewInt(n), 96)
		low := new(big.Int).Lsh(big.NewInt(int64(cubeFloor(n))), 32)
		low.Add(low, big.NewInt(int64(roundWords[i])))
		high := new(big.Int).Add(low, big.NewInt(1))
		three := big.NewInt(3)
		if new(big.Int).Exp(low, three, nil).Cmp(cube) > 0 || new(big.Int).Exp(high, three, nil).Cmp(cube) <= 0 {
			t.Errorf("q(%d)", i)
		}
		i++
	}
}

func cubeFloor(n int64) int64 {
	r := int64(0)
	for (r+1)*(r+1)*(r+1) <= n {
		r++
	}
	return r
}

// The number of bits has 64 bits: more than 2^29 bytes need those above the lowest 32.
func TestLongLengthP3_1(t *testing.T) {
	h := New()
	h.count = 0x123456789ABC0 << 6
	h.pad()
	want := big.NewInt(0x123456789ABC0 << 9).FillBytes(make([]byte, 8))
	if !slices.Equal(h.block[56:], want) {
		t.Errorf("the number of bits: %v, not %v", h.block[56:], want)
	}
}

func TestHashP3_1(t *testing.T) {
	h := New()
	if h.Sum() != Sum(nil) {
		t.Error("a new hash has no bytes")
	}
	var all []byte
	for i := range 150 {
		part := samples.Noise(i, i)
		h.Write(part)
		all = append(all, part...)
		if h.Sum() != stdsha.Sum256(all) || h.Sum() != h.Sum() {
			t.Fatalf("after %d bytes", len(all))
		}
	}
}

func TestNilP3_1(t *testing.T) {
	var h *Hash
	h.Write([]byte("abc"))
	if h.Sum() != Sum(nil) {
		t.Error("a nil hash has no bytes, and accepts none")
	}
}

func TestPartsP3_2(t *testing.T) {
	b := samples.Copies(3, 200)
	want := Sum(b)
	for first := range len(b) + 1 {
		h := New()
		h.Write(b[:first])
		h.Write(nil)
		h.Write(b[first:])
		if h.Sum() != want {
			t.Errorf("cut at %d", first)
		}
	}
	one := New()
	for i := range b {
		one.Write(b[i : i+1])
	}
	if one.Sum() != want {
		t.Error("byte by byte")
	}
}

// What was written is not kept: changing it afterwards changes nothing; nor do two hashes share anything.
func TestNotKeptP0(t *testing.T) {
	b := samples.Noise(4, 100)
	c := slices.Clone(b)
	h, other := New(), New()
	h.Write(b)
	if !slices.Equal(b, c) {
		t.Error("the bytes changed")
	}
	clear(b)
	if h.Sum() != stdsha.Sum256(c) || other.Sum() != Sum(nil) {
		t.Error("the bytes were kept, or two hashes share them")
	}
}
