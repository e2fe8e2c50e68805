package checker

import (
	"sync"

	"paddock/api"
)

// byGate looks at all gates at once, as none needs another one, and answers what was found in their order.
func byGate[T any](m api.Image, look func(m api.Image, gate int) T) []T {
	found := make([]T, len(m.Gates))
	var all sync.WaitGroup
	all.Add(len(found))
	for gate := range found {
		go func() {
			defer all.Done()
			found[gate] = look(m, gate)
		}()
	}
	all.Wait()
	return found
}
