package roots

import "slices"

// Enqueue lays an address at the queue's end, Dequeue takes the first one.
func (r *Roots) Enqueue(at int) { r.queue.Put(address(at)) }

func (r *Roots) Dequeue() (int, bool) { return r.queue.Take() }

// Queue tells the queue.
func (r *Roots) Queue() []int { return slices.Collect(r.queue.All()) }
