package collect

import (
	"commonform/api"
	"commonform/heap"
)

// Watch waits for the end of an object.
func (c *Collector) Watch(w heap.Word, id int) api.Errno {
	switch {
	case c.isNone():
		return api.ErrArg
	case c.h.Place(w) < 0:
		return heap.ErrWord
	case w == heap.Nil:
		return api.ErrArg
	}
	c.watchers = append(c.watchers, watcher{w, id})
	return api.OK
}

// Ended returns the watchers whose objects are gone.
func (c *Collector) Ended() []int {
	if c == nil {
		return nil
	}
	ended := c.ended
	c.ended = nil
	return ended
}

// Watched returns the watchers that wait.
func (c *Collector) Watched() []int {
	if c == nil {
		return nil
	}
	var out []int
	for _, w := range c.watchers {
		out = append(out, w.id)
	}
	return out
}

// follow takes the watchers to the new places of the objects that were kept, which stand behind the first object in the order in which they were laid, and ends the others.
func (c *Collector) follow(kept []heap.Word) {
	if len(c.watchers) == 0 {
		return
	}
	to := map[heap.Word]heap.Word{}
	for i, w := range c.h.Objects()[1:] {
		to[kept[i]] = w
	}
	var waiting []watcher
	for _, w := range c.watchers {
		if object, ok := to[w.object]; ok {
			waiting = append(waiting, watcher{object, w.id})
		} else {
			c.ended = append(c.ended, w.id)
		}
	}
	c.watchers = waiting
}
