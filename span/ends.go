package span

import "cmp"

// ends is the two ends of a row of things that have an order. Nothing is in it, if Lo is above Hi.
type ends[T cmp.Ordered] struct{ Lo, Hi T }

func (e ends[T]) empty() bool { return e.Lo > e.Hi }

func (e ends[T]) single() bool { return e.Lo == e.Hi }

func (e ends[T]) has(x T) bool { return e.Lo <= x && x <= e.Hi }

func (e ends[T]) within(o ends[T]) bool {
	return e.empty() || o.Lo <= e.Lo && e.Hi <= o.Hi
}

func (e ends[T]) join(o ends[T]) ends[T] {
	switch {
	case e.empty():
		return o
	case o.empty():
		return e
	}
	return ends[T]{min(e.Lo, o.Lo), max(e.Hi, o.Hi)}
}

// meet needs no look at empty ones: its Lo is not below either Lo, its Hi not above either Hi, so that with an empty one it is empty too.
func (e ends[T]) meet(o ends[T]) ends[T] {
	return ends[T]{max(e.Lo, o.Lo), min(e.Hi, o.Hi)}
}

// widen is least and most where an end of e is not kept.
func (e ends[T]) widen(o ends[T], least T, most T) ends[T] {
	j := e.join(o)
	if e.empty() || o.empty() {
		return j
	}
	if j.Lo != e.Lo {
		j.Lo = least
	}
	if j.Hi != e.Hi {
		j.Hi = most
	}
	return j
}
