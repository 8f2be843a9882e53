package hands

import (
	"sync"
	"sync/atomic"

	"coppice/api"
	"coppice/page"
)

// look lets so many hands decode the pages of a file, one at least, and tell each with its number, several at one time; one that does not decode is told as the zero page.
func look(b []byte, hands int, tell func(no int, p api.Page)) {
	count := len(b) / api.PageSize
	numbers, done := make(chan int), make(chan struct{})
	var looked atomic.Int64
	var end sync.Once
	var group sync.WaitGroup
	group.Go(func() { handOut(count, numbers, done) })
	for range hands {
		group.Go(func() {
			for no := range numbers {
				p, _ := page.Decode(b[no*api.PageSize : (no+1)*api.PageSize]) // the zero page beside an error
				tell(no, p)
				if looked.Add(1) == int64(count) {
					end.Do(func() { close(done) })
				}
			}
		})
	}
	group.Wait()
}

// handOut hands out the numbers below count, waits till all is done, and sends the hands home.
func handOut(count int, numbers chan<- int, done <-chan struct{}) {
	defer close(numbers)
	open := numbers
	for no := 0; ; no++ {
		if no == count {
			open = nil // nothing is left: a send that is never ready, so that done alone is waited for
		}
		select {
		case open <- no:
		case <-done:
			return
		}
	}
}
