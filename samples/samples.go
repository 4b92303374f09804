// Package samples makes bytes of several kinds for the tests of the other packages. The same arguments always give the same bytes.
package samples

// next steps a xorshift register, which never reaches 0 from another value.
func next(x uint64) uint64 {
	x ^= x << 13
	x ^= x >> 7
	x ^= x << 17
	return x
}

// start spreads small seeds, so that neighbouring ones give unrelated bytes.
func start(seed int) uint64 {
	x := uint64(seed)*0x9E3779B97F4A7C15 | 1
	for range 8 {
		x = next(x)
	}
	return x
}

// Numbers returns many numbers below limit (which is at least 1).
func Numbers(seed, many, limit int) []int {
	x := start(seed)
	out := make([]int, 0, many)
	for range many {
		x = next(x)
		out = append(out, int(x>>33)%limit)
	}
	return out
}

// Noise returns n bytes without a pattern.
func Noise(seed, n int) []byte {
	out := make([]byte, 0, n)
	for _, v := range Numbers(seed, n, 256) {
		out = append(out, byte(v))
	}
	return out
}

// Few returns n bytes of a small alphabet, so that short repetitions abound.
func Few(seed, n, alphabet int) []byte {
	out := make([]byte, 0, n)
	for _, v := range Numbers(seed, n, alphabet) {
		out = append(out, byte('a'+v))
	}
	return out
}

// Copies returns n bytes, of which most are copied from earlier ones, at all kinds of distances and lengths.
func Copies(seed, n int) []byte {
	out := make([]byte, 0, n)
	x := start(seed)
	for len(out) < n {
		x = next(x)
		kind, long, back := int(x>>8)%4, int(x>>16)%300+1, int(x>>32)
		if kind == 0 || len(out) == 0 {
			out = append(out, byte(x>>40))
			continue
		}
		if kind == 1 {
			back %= 8
		}
		back = back%len(out) + 1
		for range min(long, n-len(out)) {
			out = append(out, out[len(out)-back])
		}
	}
	return out
}

// Kinds returns n bytes of each kind.
func Kinds(n int) [][]byte {
	return [][]byte{make([]byte, n), Noise(1, n), Few(2, n, 2), Few(3, n, 20), Copies(4, n)}
}
