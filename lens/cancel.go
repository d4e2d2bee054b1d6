package lens

import "sync"

// Cancel: a wish that a search ends.
type Cancel struct {
	made, closed sync.Once
	done         chan struct{} // closed when it is cancelled
}

// NewCancel makes one that isn't cancelled.
func NewCancel() *Cancel { return &Cancel{} }

// Cancel cancels it, for good.
func (c *Cancel) Cancel() {
	c.channel()
	c.closed.Do(func() { close(c.done) })
}

// Cancelled tells whether it was.
func (c *Cancel) Cancelled() bool { return isClosed(c.channel()) }

// channel tells the channel that is closed when c is cancelled. It is made when it is first needed, so that a Cancel that NewCancel didn't make is none that panics.
func (c *Cancel) channel() <-chan struct{} {
	c.made.Do(func() { c.done = make(chan struct{}) })
	return c.done
}

// isClosed tells whether a channel on which nothing is sent was closed; one that is nil never is.
func isClosed(done <-chan struct{}) bool {
	select {
	case <-done:
		return true
	default:
		return false
	}
}
