package weft

import (
	"slices"

	"paddock/api"
	"paddock/checker"
	"paddock/erase"
)

// none is what stands for no channel.
const none = -1

// bared is what is left of a net's programs on bare addresses; or the error of a net that is not right.
func bared(n api.Net) ([]api.Program, api.Errno) {
	if hasTooMuch(n) {
		return nil, api.ErrNet
	}
	var programs []api.Program
	for _, m := range n.Programs {
		// What the checker takes surely has a program of bare addresses, and nothing else has.
		p, taken := erase.Program(m, checker.Check(m))
		if !taken {
			return nil, api.ErrCheck
		}
		programs = append(programs, p)
	}
	if slices.ContainsFunc(n.Procs, func(p api.Proc) bool { return !mayBe(p, n) }) {
		return nil, api.ErrNet
	}
	if isShared(n.Procs, func(p api.Proc) int { return p.In }) || isShared(n.Procs, func(p api.Proc) int { return p.Out }) {
		return nil, api.ErrShared
	}
	return programs, api.OK
}

func hasTooMuch(n api.Net) bool {
	if len(n.Programs) > api.MaxProcs || len(n.Procs) > api.MaxProcs || len(n.Queues) > api.MaxQueues {
		return true
	}
	return slices.ContainsFunc(n.Queues, func(numbers []uint64) bool { return len(numbers) > api.MaxFuel })
}

// mayBe tells whether a process has a beginning, and channels that are there.
func mayBe(p api.Proc, n api.Net) bool {
	if !isBelow(p.Program, len(n.Programs)) || !isBelow(p.Gate, len(n.Programs[p.Program].Gates)) {
		return false
	}
	args := n.Programs[p.Program].Gates[p.Gate].Args
	if slices.ContainsFunc(args, func(t api.Type) bool { return t.Cap }) || len(args) != len(p.Args) {
		return false
	}
	return isChannel(p.In, n) && isChannel(p.Out, n)
}

func isChannel(k int, n api.Net) bool { return k == none || isBelow(k, len(n.Queues)) }

// isShared tells whether two processes have the same channel, of those that are asked for.
func isShared(procs []api.Proc, channel func(api.Proc) int) bool {
	for k, p := range procs {
		isSame := func(q api.Proc) bool { return channel(q) == channel(p) }
		if channel(p) != none && slices.ContainsFunc(procs[:k], isSame) {
			return true
		}
	}
	return false
}

func isBelow(k int, count int) bool { return k >= 0 && k < count }
