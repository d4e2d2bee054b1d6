package lens

import "midden/halt"

// Cancel: a wish that a search ends.
type Cancel struct {
	wish halt.Wish
}

// NewCancel makes one that isn't cancelled.
func NewCancel() *Cancel { return &Cancel{} }

// Cancel cancels it, for good.
func (c *Cancel) Cancel() { c.wish.Utter() }

// Cancelled tells whether it was.
func (c *Cancel) Cancelled() bool { return halt.Closed(c.wish.Done()) }
