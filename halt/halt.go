// Package halt: a wish that what is under way ends. It is no layer: lens and tuner each have a Cancel, and each is made of it.
package halt

import "sync"

// Wish: the zero one hasn't been uttered.
type Wish struct {
	made, closed sync.Once
	done         chan struct{} // closed when it is uttered
}

// Utter utters it, for good.
func (w *Wish) Utter() {
	w.Done()
	w.closed.Do(func() { close(w.done) })
}

// Done tells the channel that is closed when w is uttered. It is made when it is first needed, so that a wish that nobody made is none that panics.
func (w *Wish) Done() <-chan struct{} {
	w.made.Do(func() { w.done = make(chan struct{}) })
	return w.done
}

// Closed tells whether a channel on which nothing is sent was closed; one that is nil never is.
func Closed(done <-chan struct{}) bool {
	select {
	case <-done:
		return true
	default:
		return false
	}
}
