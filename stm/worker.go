package stm

import (
	"slices"

	"padstone/desc"
	"padstone/tx"
)

// spent is what a job tells whose descriptor was Spent.
const spent = -1

// worker does the jobs of its feed, one behind the other.
type worker struct {
	feed   Feed
	told   []int
	job    Job // that is under way; nil: none is
	record *tx.Tx
	desc   *desc.Desc // nil: the job has none
	number int        // what the job told when it got its descriptor
}

// next is the next job, or nil. It is asked for anew each time: a feed may have
// none now, and one later. A feed that panics has none.
func (w *worker) next() Job {
	defer func() { recover() }()
	return w.feed(slices.Clone(w.told))
}

// begin begins the next job, and tells whether there is one.
func (w *worker) begin(cells int) bool {
	w.job = w.next()
	if w.job == nil {
		return false
	}
	w.record = tx.New(cells)
	return true
}

// end ends a job whose descriptor is over; one that Failed begins anew.
func (w *worker) end(cells int) {
	if w.desc.Status() == desc.Failed {
		w.record, w.desc = tx.New(cells), nil
		return
	}
	*w = worker{feed: w.feed, told: append(w.told, w.tells())}
}

// bears tells whether its job's descriptor has that mark.
func (w *worker) bears(mark int) bool { return w.desc != nil && w.desc.Mark() == mark }

// tells is what its job tells, once the descriptor is Done, or Spent.
func (w *worker) tells() int {
	if w.desc.Status() == desc.Spent {
		return spent
	}
	return w.number
}
