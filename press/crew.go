package press

import "sync"

// task is a part on its way to a worker.
type task struct {
	number int
	part   []byte
}

// result is a part on its way from a worker.
type result struct {
	number int
	packed packed
}

// crew is a splitter, workers and a collector. A part that is alive holds one of the slots.
type crew struct {
	pack      func(part []byte) packed
	slots     chan struct{}
	queue     chan task
	finished  chan result
	collected []packed
	all       sync.WaitGroup
}

func newCrew(workers, room int, pack func(part []byte) packed) *crew {
	return &crew{
		pack:     pack,
		slots:    make(chan struct{}, workers+room+1),
		queue:    make(chan task, room),
		finished: make(chan result),
	}
}

// run returns the packed parts, in the order of the parts, when everything that it started has ended.
func (c *crew) run(parts [][]byte, workers int) []packed {
	c.all.Add(workers + 2)
	go c.split(parts)
	for range workers {
		go c.work()
	}
	go c.collect(len(parts))
	c.all.Wait()
	return c.collected
}

// split passes the parts to the queue, one by one.
func (c *crew) split(parts [][]byte) {
	defer c.all.Done()
	for i, part := range parts {
		c.slots <- struct{}{}
		c.queue <- task{number: i, part: part}
	}
	close(c.queue)
}

// work packs parts until the queue ends.
func (c *crew) work() {
	defer c.all.Done()
	for t := range c.queue {
		c.finished <- result{number: t.number, packed: c.pack(t.part)}
	}
}

// collect puts as many parts in order, as they come. Slots are given out in order, so the next part always has one: those that wait for it cannot keep it from being packed.
func (c *crew) collect(many int) {
	defer c.all.Done()
	waiting := make(map[int]packed)
	for range many {
		r := <-c.finished
		waiting[r.number] = r.packed
		for {
			next, ok := waiting[len(c.collected)]
			if !ok {
				break
			}
			delete(waiting, len(c.collected))
			c.collected = append(c.collected, next)
			<-c.slots
		}
	}
}
