package tuner

import "midden/halt"

// Cancel: a wish that what is under way ends.
type Cancel struct {
	wish halt.Wish
}

// NewCancel makes one that isn't cancelled.
func NewCancel() *Cancel { return &Cancel{} }

// Cancel cancels it, for good.
func (c *Cancel) Cancel() { c.wish.Utter() }

// Cancelled tells whether it was.
func (c *Cancel) Cancelled() bool { return halt.Closed(c.wish.Done()) }

// done tells the channel that is closed when c is cancelled; nil, if nobody can cancel.
func done(c *Cancel) <-chan struct{} {
	if c == nil {
		return nil
	}
	return c.wish.Done()
}
