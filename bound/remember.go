package bound

// A question is asked of a number: that of an instruction, or of a gate. False: nothing is known of it.
type question[T any] func(n int) (T, bool)

// answer is what was found.
type answer[T any] struct {
	value T
	known bool
}

// remembering is a question whose answers are found by asking the same of others. Each is looked for once, so that ways that meet again are not gone twice. What finds must know nothing where it asks of one of which nothing is known: so what is remembered of those in a round holds, wherever that was come to.
func remembering[T any](find func(n int, ask question[T]) (T, bool)) question[T] {
	answers := map[int]answer[T]{}
	var ask question[T]
	ask = func(n int) (T, bool) {
		if a, isThere := answers[n]; isThere {
			return a.value, a.known
		}
		// Who asks of n again while its answer is looked for has come round to it: nothing is known there.
		answers[n] = answer[T]{}
		value, known := find(n, ask)
		answers[n] = answer[T]{value, known}
		return value, known
	}
	return ask
}
