package press

import (
	"bytes"
	"runtime"
	"slices"
	"sync"
	"testing"
	"time"

	"winepress/api"
	"winepress/pool"
	"winepress/samples"
	"winepress/stream"
)

const enough = 1 << 32

func options() api.Options {
	return api.Options{Lc: 3, Lp: 0, Pb: 2, Nice: 64, Chunk: 300, Block: 700, Check: api.Crc32, Dict: 4096}
}

func sequential(t *testing.T, data []byte, o api.Options) []byte {
	t.Helper()
	b, e := stream.Pack(data, o)
	if e != api.OK {
		t.Fatalf("%v: %d", o, e)
	}
	return b
}

// picks returns n picks that favour actors as the seed says.
func picks(seed, n int) []uint8 {
	switch seed % 4 {
	case 0:
		return make([]uint8, n)
	case 1:
		return bytes.Repeat([]byte{255}, n)
	default:
		return samples.Noise(seed, n)
	}
}

func TestArgumentsP22_1(t *testing.T) {
	bad := options()
	bad.Block = 0
	huge := 1<<63 - 1
	for i, c := range []struct {
		o             api.Options
		workers, room int
	}{
		{bad, 1, 1}, {api.Options{}, 1, 1}, {options(), 0, 1}, {options(), 65, 1}, {options(), -1, 1}, {options(), huge, 1}, {options(), 1, 0}, {options(), 1, 65}, {options(), 1, -huge}, {options(), 1, huge},
	} {
		b, e := Pack([]byte("abc"), c.o, c.workers, c.room)
		p, n, e2 := Picked([]byte("abc"), c.o, c.workers, c.room, make([]uint8, 100))
		if e != api.ErrArg || len(b) != 0 || e2 != api.ErrArg || len(p) != 0 || n != 0 {
			t.Errorf("case %d: %v, %d; %v, %d, %d", i, b, e, p, n, e2)
		}
	}
}

// T1: the same bytes as sequentially, however many work, and whatever the room is.
func TestSameBytesT1P22_1(t *testing.T) {
	for _, data := range append(samples.Kinds(9000), nil, []byte{7}, samples.Few(2, 701, 5)) {
		for _, size := range []int{1000, 2999, 1 << 40} {
			o := options()
			o.Block = size
			want := sequential(t, data, o)
			for _, c := range [][2]int{{1, 1}, {2, 1}, {3, 7}, {8, 2}, {64, 64}} {
				if got, e := Pack(data, o, c[0], c[1]); e != api.OK || !bytes.Equal(got, want) {
					t.Fatalf("blocks of %d, %v: different, %d", size, c, e)
				}
			}
		}
	}
}

func TestManyPartsP22_1(t *testing.T) {
	o := options()
	o.Block = 1
	data := samples.Noise(1, 10050)
	want := sequential(t, data, o)
	if got, e := Pack(data, o, 5, 3); e != api.OK || !bytes.Equal(got, want) {
		t.Errorf("10050 parts: %d", e)
	}
	if got, n, e := Picked(data, o, 5, 3, make([]uint8, 9)); e != api.ErrArg || len(got) != 0 || n != 0 {
		t.Errorf("10050 parts, by picks: %d, %d", n, e)
	}
	if got, n, e := Picked(data[:10000], o, 5, 3, make([]uint8, 40001)); e != api.OK || n != 40000 || !bytes.Equal(got, sequential(t, data[:10000], o)) {
		t.Errorf("10000 parts, by picks: %d, %d", n, e)
	}
}

// When Pack returns, everything that it started has ended.
func TestAllHasEndedP22_1(t *testing.T) {
	before := runtime.NumGoroutine()
	for i := range 50 {
		if _, e := Pack(samples.Few(i, 5000, 3), options(), 1+i%9, 1+i%4); e != api.OK {
			t.Fatal(e)
		}
	}
	for range 200 { // one that has said that it is done may still be leaving
		if runtime.NumGoroutine() <= before {
			return
		}
		time.Sleep(time.Millisecond)
	}
	t.Errorf("%d goroutines, %d before", runtime.NumGoroutine(), before)
}

// While the first part is not finished, as many others are as may be alive beside it, and no more; all workers work at once.
func TestAliveP22_1(t *testing.T) {
	const workers, room = 3, 4
	var lock sync.Mutex
	begun := 0
	others := make(chan int, 100)
	release := make(chan int)
	pack := func(part []byte) packed {
		lock.Lock()
		begun++
		lock.Unlock()
		if part[0] == 0 {
			<-release
		} else {
			others <- int(part[0])
		}
		return packed{block: part}
	}
	var parts [][]byte
	for i := range 40 {
		parts = append(parts, []byte{byte(i)})
	}
	result := make(chan []packed)
	go func() { result <- newCrew(workers, room, pack).run(parts, workers) }()
	for range workers + room { // all that may be alive, but the first one
		<-others
	}
	time.Sleep(20 * time.Millisecond)
	lock.Lock()
	if begun != workers+room+1 {
		t.Errorf("%d parts were alive", begun)
	}
	lock.Unlock()
	release <- 1
	for i, p := range <-result {
		if int(p.block[0]) != i {
			t.Errorf("part %d is at place %d", p.block[0], i)
		}
	}
}

func TestWorkersWorkAtOnceP22_1(t *testing.T) {
	const workers = 5
	var meeting sync.WaitGroup
	meeting.Add(workers)
	pack := func(part []byte) packed {
		meeting.Done()
		meeting.Wait() // nobody goes on until all are here
		return packed{block: part}
	}
	parts := make([][]byte, workers)
	if got := newCrew(workers, 1, pack).run(parts, workers); len(got) != workers {
		t.Errorf("%d parts", len(got))
	}
}

// T1, T4: by any picks the same bytes, after four steps for each block.
func TestPickedT1T4P22_2(t *testing.T) {
	for seed := range 60 {
		data := samples.Copies(seed, seed*101%4000)
		o := options()
		o.Block = 200 + seed*13%500
		parts := (len(data) + o.Block - 1) / o.Block
		want := sequential(t, data, o)
		workers, room := 1+seed%6, 1+seed%5
		got, n, e := Picked(data, o, workers, room, picks(seed, 4*parts+3))
		if e != api.OK || n != 4*parts || !bytes.Equal(got, want) {
			t.Fatalf("seed %d: %d steps for %d parts, %d", seed, n, parts, e)
		}
		got, n, e = Picked(data, o, workers, room, picks(seed, 4*parts))
		if e != api.OK || n != 4*parts || !bytes.Equal(got, want) {
			t.Fatalf("seed %d, just enough picks: %d steps, %d", seed, n, e)
		}
		if parts == 0 {
			continue
		}
		for _, few := range []int{0, 1, 4*parts - 1} {
			if got, n, e := Picked(data, o, workers, room, picks(seed, few)); e != api.OK || n != few || len(got) != 0 {
				t.Fatalf("seed %d, %d picks: %d bytes, %d steps, %d", seed, few, len(got), n, e)
			}
		}
	}
}

// A part is packed once, by the worker that finishes it, with that step.
func TestPackedWhenFinishedP22_2(t *testing.T) {
	const workers = 3
	parts := make([][]byte, 12)
	for n := range 4*len(parts) + 1 {
		p, _ := pool.New(len(parts), workers, 2)
		calls := 0
		pack := func([]byte) packed {
			calls++
			return packed{}
		}
		l, steps, e := follow(p, parts, workers, picks(6, n), pack)
		if e != api.OK || steps != n || len(l) != len(p.Out()) || calls != len(p.Out())+p.Waiting() {
			t.Errorf("%d picks: %d steps, %d collected, %d packed, %d wait, %d", n, steps, len(l), calls, p.Waiting(), e)
		}
	}
}

func TestNoDataP22_2(t *testing.T) {
	want := sequential(t, nil, options())
	for _, workers := range []int{1, 2, 64} {
		if got, e := Pack(nil, options(), workers, 1); e != api.OK || !slices.Equal(got, want) {
			t.Errorf("%d workers: %d", workers, e)
		}
		for _, l := range [][]uint8{nil, {1, 2, 3}} {
			if got, n, e := Picked(nil, options(), workers, 1, l); e != api.OK || n != 0 || !slices.Equal(got, want) {
				t.Errorf("%d workers, by picks: %d, %d", workers, n, e)
			}
		}
	}
}

// T2: what was compressed is read to the same.
func TestThereAndBackT2P22_3(t *testing.T) {
	for i, data := range samples.Kinds(4000) {
		o := options()
		o.Check = []int{api.None, api.Crc32, api.Crc64, api.Sha256, api.Crc32}[i]
		o.Chain = []api.Filter{{Id: api.Delta, N: 2}, {Id: api.Arm64, N: 4}, {Id: api.Ppc}}[:i%4]
		b, _ := Pack(data, o, 4, 2)
		for _, f := range []func([]byte, uint64) ([]byte, api.Errno){Read, stream.Read} {
			if got, e := f(b, enough); e != api.OK || !bytes.Equal(got, data) {
				t.Errorf("kind %d: %d bytes, %d", i, len(got), e)
			}
		}
		twice := slices.Concat(b, make([]byte, 8), b)
		if got, e := Read(twice, enough); e != api.OK || !bytes.Equal(got, slices.Concat(data, data)) {
			t.Errorf("kind %d, twice: %d", i, e)
		}
	}
}

// T3: any bytes are read as stream.Read reads them: to data, or with one of the errors.
func TestAnyBytesT3P22_3(t *testing.T) {
	o := options()
	o.Check = api.Crc64
	data := samples.Few(5, 1200, 4)
	good, _ := Pack(data, o, 3, 3)
	seen := map[api.Errno]int{}
	try := func(b []byte, memory uint64) {
		got, e := Read(b, memory)
		want, e2 := stream.Read(b, memory)
		if e != e2 || !bytes.Equal(got, want) || e < api.OK || e > api.ErrFull || e != api.OK && len(got) != 0 {
			t.Errorf("%d bytes, %d, not %d", len(got), e, e2)
		}
		if e == api.OK && len(b) > 0 && !bytes.Equal(got, data) && !bytes.Equal(got, slices.Concat(data, data)) {
			t.Error("read to other data")
		}
		seen[e]++
	}
	for i := range len(good) * 8 {
		b := slices.Clone(good)
		b[i/8] ^= 1 << (i % 8)
		try(b, enough)
	}
	for i, v := range samples.Numbers(6, 300, len(good)) {
		try(good[:v], enough)
		try(slices.Concat(good, good[:v]), enough)
		try(slices.Concat(good[:v], good[min(v+i%7, len(good)):]), enough)
		try(slices.Concat(good, make([]byte, i%9), good), enough)
	}
	try(good, 4095)
	try(nil, enough)
	for _, e := range []api.Errno{api.OK, api.ErrTrunc, api.ErrMagic, api.ErrHead, api.ErrData, api.ErrIndex, api.ErrMem} {
		if seen[e] == 0 {
			t.Errorf("error %d never occurred: %v", e, seen)
		}
	}
}

// T5: compressed data are not much longer than the data: 3 bytes for each chunk, and for each block a head, zeros, a check, and a record.
func TestLengthT5(t *testing.T) {
	for _, n := range []int{0, 1, 100, 5000} {
		for _, data := range samples.Kinds(n) {
			for _, size := range []int{50, 700, 100000} {
				o := options()
				o.Block, o.Check = size, api.Sha256
				b, _ := Pack(data, o, 2, 2)
				blocks := (n + size - 1) / size
				chunks := n/o.Chunk + blocks
				if most := n + 3*chunks + 128*blocks + 18*blocks + 64; len(b) > most {
					t.Errorf("%d bytes, blocks of %d: %d bytes, more than %d", n, size, len(b), most)
				}
			}
		}
	}
	if b, _ := Pack(make([]byte, 70000), options(), 2, 2); len(b) > 7000 {
		t.Errorf("zeros: %d bytes", len(b))
	}
}

func TestNewMemoryP22_4(t *testing.T) {
	data := samples.Copies(5, 3000)
	o := options()
	o.Chain = []api.Filter{{Id: api.Delta, N: 1}}
	l := picks(2, 100)
	same, sameChain, sameL := slices.Clone(data), slices.Clone(o.Chain), slices.Clone(l)
	b, _ := Pack(data, o, 2, 2)
	p, _, _ := Picked(data, o, 2, 2, l)
	sameB := slices.Clone(b)
	got, _ := Read(b, enough)
	if !slices.Equal(data, same) || !slices.Equal(o.Chain, sameChain) || !slices.Equal(l, sameL) || !slices.Equal(b, sameB) || !slices.Equal(p, b) {
		t.Error("an argument changed")
	}
	clear(got)
	clear(p)
	clear(b)
	if again, _ := Pack(data, o, 2, 2); !slices.Equal(data, same) || !slices.Equal(again, sameB) {
		t.Error("memory is shared")
	}
}
