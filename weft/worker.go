package weft

import "sync"

// worker does a process, which may do so many steps yet.
type worker struct {
	*process
	left int
}

func hired(procs []*process, fuel int) []*worker {
	var l []*worker
	for _, p := range procs {
		l = append(l, &worker{p, fuel})
	}
	return l
}

// work goes on as far as can be by now.
func (w *worker) work() {
	w.left -= w.advance(w.left)
	if w.left == 0 && !w.isOver() {
		// Without fuel the machine tells where it is Spent.
		w.stand(w.machine.Run(0))
	}
}

// workAtOnce lets each of them work until it is over or waits. What one waits for may come when it has stopped already, so that all are to be asked again behind it.
func workAtOnce(l []*worker) {
	var all sync.WaitGroup
	all.Add(len(l))
	for _, w := range l {
		go func() {
			defer all.Done()
			w.work()
		}()
	}
	all.Wait()
}

func thoseWhoCan(l []*worker) []*worker {
	var can []*worker
	for _, w := range l {
		if w.canGoOn() {
			can = append(can, w)
		}
	}
	return can
}
