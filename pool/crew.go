package pool

import (
	"sync"

	"pangram/api"
	"pangram/check"
)

// job is a text that is to be checked, and its number.
type job struct {
	number int
	text   string
}

// told is the verdict on the text of a number.
type told struct {
	number  int
	verdict api.Verdict
}

// crew is workers, and what they share.
type crew struct {
	limits   api.Limits
	jobs     chan job
	verdicts chan told
	stop     chan struct{} // is closed when no more is wanted
	working  sync.WaitGroup
}

// gather has texts checked, and hands each verdict to take when it comes, as long as take wants more. No worker is left when it answers.
func gather(workers int, l api.Limits, texts []string, take func(told) bool) {
	c := &crew{limits: l, jobs: make(chan job), verdicts: make(chan told), stop: make(chan struct{})}
	// Deferred, as take may panic, and would leave workers behind.
	defer c.leave()
	sent := 0
	for sent < min(workers, len(texts)) {
		c.hire()
		c.jobs <- job{sent, texts[sent]}
		sent++
	}
	for range texts {
		// Nothing more is begun ahead of take's answer: once begun, it would have to be waited for.
		if !take(<-c.verdicts) {
			return
		}
		if sent < len(texts) {
			c.jobs <- job{sent, texts[sent]}
			sent++
		}
	}
}

// hire has one more worker.
func (c *crew) hire() {
	c.working.Add(1)
	go c.work()
}

// leave waits till all workers have stopped.
func (c *crew) leave() {
	close(c.stop)
	c.working.Wait()
}

// work checks texts, one by one, till it is told to stop.
func (c *crew) work() {
	defer c.working.Done()
working:
	for {
		select {
		case <-c.stop:
			break working
		case j := <-c.jobs:
			t := told{j.number, check.Check(j.text, c.limits)}
			select {
			case <-c.stop:
				break working
			case c.verdicts <- t:
			}
		}
	}
}
