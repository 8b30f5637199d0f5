package stm

import (
	"errors"
	"fmt"
	"math"
	"slices"
	"strings"
	"testing"

	"padstone/api"
	"padstone/view"
	"padstone/word"
)

// store is one of those values.
func store(t *testing.T, limit uint32, values ...uint64) *word.Store {
	t.Helper()
	s, err := word.New(len(values), limit)
	if err != nil {
		t.Fatal(err)
	}
	for i, w := range values {
		if err := s.Set(i, w); err != nil {
			t.Fatal(err)
		}
	}
	return s
}

// machine is one of those feeds.
func machine(t *testing.T, s *word.Store, feeds ...Feed) *Machine {
	t.Helper()
	m, err := New(s, feeds)
	if err != nil || m == nil {
		t.Fatal("no machine:", err)
	}
	return m
}

// jobs is a machine whose workers have those lists of jobs.
func jobs(t *testing.T, s *word.Store, lists ...[]Job) *Machine {
	t.Helper()
	var feeds []Feed
	for _, l := range lists {
		feeds = append(feeds, List(l))
	}
	return machine(t, s, feeds...)
}

// add adds to a cell, and tells what that is then.
func add(i int, n uint64) Job {
	return func(v view.View) int {
		v.Write(i, v.Read(i)+n)
		return int(v.Read(i))
	}
}

// look reads cells, and tells their sum.
func look(cells ...int) Job {
	return func(v view.View) int {
		sum := 0
		for _, i := range cells {
			sum += int(v.Read(i))
		}
		return sum
	}
}

// fix tells a number, and touches nothing.
func fix(n int) Job { return func(view.View) int { return n } }

// one is a list of one job.
func one(j Job) []Job { return []Job{j} }

// show tells all that is to be seen: what each worker's jobs told, with a *
// where one is under way; the log; each cell's value, version, and mark, if it
// bears one; and whether the machine is idle.
func show(m *Machine, s *word.Store) string {
	var told, log, cells []string
	for w := range m.workers {
		x := fmt.Sprint(m.Told(w))
		if m.Busy(w) {
			x += "*"
		}
		told = append(told, x)
	}
	for _, e := range m.Log() {
		x := fmt.Sprintf("%d.%d=%d", e.Worker, e.Job, e.Told)
		if e.Spent {
			x += " spent"
		}
		log = append(log, x)
	}
	for i := range s.Len() {
		c, _ := s.Read(i)
		x := fmt.Sprintf("%d.%d", c.Value, c.Version)
		if c.Mark != 0 {
			x += fmt.Sprintf("*%d", c.Mark)
		}
		cells = append(cells, x)
	}
	all := strings.Join(told, " ") + " | " + strings.Join(log, ", ") + " | " + strings.Join(cells, " ")
	if m.Idle() {
		all += " | idle"
	}
	return all
}

// is holds what is to be seen against what is to be.
func is(t *testing.T, what string, m *Machine, s *word.Store, want string) {
	t.Helper()
	if got := show(m, s); got != want {
		t.Errorf("%s: %s\nwant %s", what, got, want)
	}
}

// turn is a worker that is to do a step, and what is to be seen behind it.
type turn struct {
	worker int
	want   string
}

// goes holds the next steps against what they are to do.
func goes(t *testing.T, what string, m *Machine, s *word.Store, turns ...turn) {
	t.Helper()
	for n, x := range turns {
		if !m.Step(x.worker) {
			t.Errorf("%s: step %d: nothing is done", what, n+1)
		}
		is(t, fmt.Sprintf("%s: step %d", what, n+1), m, s, x.want)
	}
}

// by is a worker's next steps.
func by(worker int, want ...string) []turn {
	var l []turn
	for _, w := range want {
		l = append(l, turn{worker, w})
	}
	return l
}

// steps does so many steps of a worker.
func steps(t *testing.T, m *Machine, worker, n int) {
	t.Helper()
	for k := range n {
		if !m.Step(worker) {
			t.Fatalf("worker %d has no job for step %d of %d", worker, k+1, n)
		}
	}
}

// rests holds that no step of any worker does anything.
func rests(t *testing.T, what string, m *Machine, s *word.Store) {
	t.Helper()
	still := show(m, s)
	for w := range api.MaxThreads + 2 {
		if m.Step(w - 1) {
			t.Errorf("%s: worker %d does a step", what, w-1)
		}
		is(t, what, m, s, still)
	}
	if !m.Idle() {
		t.Errorf("%s: it isn't idle", what)
	}
}

// finish lets the workers go on in turn, till none has a job.
func finish(t *testing.T, m *Machine) {
	t.Helper()
	for range 100000 {
		went := false
		for w := range m.workers {
			went = m.Step(w) || went
		}
		if !went {
			return
		}
	}
	t.Fatal("it doesn't end")
}

// numbers holds a list of numbers against what it is to be.
func numbers(t *testing.T, what string, got []int, want ...int) {
	t.Helper()
	if !slices.Equal(got, want) {
		t.Errorf("%s: %v, want %v", what, got, want)
	}
}

// The chapter's example: two workers, each adding 1 to a cell, in turn.
func TestExample(t *testing.T) {
	s := store(t, api.MaxVersion, 0)
	m := jobs(t, s, one(add(0, 1)), one(add(0, 1)))
	is(t, "at first", m, s, "[] [] |  | 0.0")
	goes(t, "in turn", m, s,
		turn{0, "[]* [] |  | 0.0"},         // begins
		turn{1, "[]* []* |  | 0.0"},        // begins
		turn{0, "[]* []* |  | 0.0"},        // learns
		turn{1, "[]* []* |  | 0.0"},        // learns
		turn{0, "[]* []* |  | 0.0"},        // mark 1
		turn{1, "[]* []* |  | 0.0"},        // mark 2
		turn{0, "[]* []* |  | 0.0*1"},      // reserves
		turn{1, "[]* []* | 0.0=1 | 0.0*1"}, // 1 is in the way: its step
		turn{0, "[]* []* | 0.0=1 | 1.1"},   // puts
		turn{1, "[]* []* | 0.0=1 | 1.1"},   // Failed
		turn{0, "[1] []* | 0.0=1 | 1.1"},   // tells
		turn{1, "[1] []* | 0.0=1 | 1.1"},   // over
	)
	if m.Step(0) {
		t.Error("worker 0 has no job any more")
	}
	goes(t, "worker 1 alone", m, s, by(1,
		"[1] []* | 0.0=1 | 1.1",          // a fresh record
		"[1] []* | 0.0=1 | 1.1",          // learns
		"[1] []* | 0.0=1 | 1.1",          // mark 3
		"[1] []* | 0.0=1 | 1.1*3",        // reserves
		"[1] []* | 0.0=1, 1.0=2 | 1.1*3", // Done
		"[1] []* | 0.0=1, 1.0=2 | 2.2",   // puts
		"[1] [2] | 0.0=1, 1.0=2 | 2.2 | idle",
	)...)
	rests(t, "behind both", m, s)
	if w := s.Values()[0]; w != 2 {
		t.Error("it comes to", w)
	}
}

// P8.1: a worker alone goes through its job, a step for each.
func TestOneJob(t *testing.T) {
	s := store(t, api.MaxVersion, 3, 4)
	m := jobs(t, s, one(func(v view.View) int {
		n := v.Read(1)
		v.Write(0, n)
		return int(v.Read(0)) * 10
	}))
	goes(t, "alone", m, s, by(0,
		"[]* |  | 3.0 4.0",           // begins
		"[]* |  | 3.0 4.0",           // learns 1
		"[]* |  | 3.0 4.0",           // learns 0, though it is only written
		"[]* |  | 3.0 4.0",           // mark 1
		"[]* |  | 3.0*1 4.0",         // reserves, rising
		"[]* |  | 3.0*1 4.0*1",       // reserves
		"[]* | 0.0=40 | 3.0*1 4.0*1", // Done
		"[]* | 0.0=40 | 4.1 4.0*1",   // puts
		"[]* | 0.0=40 | 4.1 4.0",     // releases
		"[40] | 0.0=40 | 4.1 4.0 | idle",
	)...)
	rests(t, "behind it", m, s)
}

// P8.1: a job that reads nothing, and writes nothing: its descriptor is over
// once it is Done; it bears a mark all the same.
func TestNothingRead(t *testing.T) {
	s := store(t, api.MaxVersion, 5)
	m := jobs(t, s, []Job{fix(8), fix(-3), add(0, 1)})
	goes(t, "nothing is read", m, s, by(0,
		"[]* |  | 5.0",       // begins
		"[]* |  | 5.0",       // mark 1
		"[]* | 0.0=8 | 5.0",  // Done, and over
		"[8] | 0.0=8 | 5.0",  // tells
		"[8]* | 0.0=8 | 5.0", // begins
		"[8]* | 0.0=8 | 5.0", // mark 2
		"[8]* | 0.0=8, 0.1=-3 | 5.0",
		"[8 -3] | 0.0=8, 0.1=-3 | 5.0",
		"[8 -3]* | 0.0=8, 0.1=-3 | 5.0", // begins
		"[8 -3]* | 0.0=8, 0.1=-3 | 5.0", // learns
		"[8 -3]* | 0.0=8, 0.1=-3 | 5.0", // mark 3
		"[8 -3]* | 0.0=8, 0.1=-3 | 5.0*3",
	)...)
}

// P8.1: a job that writes nothing reserves what it read, and releases it, at
// the version that it had; so does one that writes what is there.
func TestNothingWritten(t *testing.T) {
	for _, j := range []Job{look(1), func(v view.View) int {
		v.Write(1, v.Read(1))
		return 5
	}, func(v view.View) int {
		v.Write(1, 9)
		v.Write(1, 5)
		return 5
	}} {
		s := store(t, api.MaxVersion, 4, 5)
		m := jobs(t, s, one(j))
		goes(t, "nothing is written", m, s, by(0, "[]* |  | 4.0 5.0", "[]* |  | 4.0 5.0",
			"[]* |  | 4.0 5.0", "[]* |  | 4.0 5.0*1", "[]* | 0.0=5 | 4.0 5.0*1",
			"[]* | 0.0=5 | 4.0 5.0", "[5] | 0.0=5 | 4.0 5.0 | idle")...)
		rests(t, "nothing is written", m, s)
	}
}

// P8.1: what is outside the store reads 0, isn't written, and takes no step.
func TestOutside(t *testing.T) {
	s := store(t, api.MaxVersion, 4)
	m := jobs(t, s, one(func(v view.View) int {
		for _, i := range []int{-1, 1, 2, math.MinInt, math.MaxInt} {
			v.Write(i, 9)
			if v.Read(i) != 0 {
				t.Error(i, "is read as", v.Read(i))
			}
		}
		return 6
	}))
	goes(t, "outside alone", m, s, by(0, "[]* |  | 4.0", "[]* |  | 4.0",
		"[]* | 0.0=6 | 4.0", "[6] | 0.0=6 | 4.0 | idle")...)
}

// P8.1: a job that lacks a cell learns it in one step, and one alone.
func TestLearnsOneAStep(t *testing.T) {
	s := store(t, api.MaxVersion, 1, 2, 3)
	var seen []string
	m := jobs(t, s, one(func(v view.View) int {
		seen = append(seen, fmt.Sprint(v.Read(2), v.Read(0), v.Read(1)))
		return 0
	}))
	for n, want := range []string{"", "0 0 0", "3 0 0", "3 1 0", "3 1 2"} {
		m.Step(0)
		if len(seen) != n || n > 0 && seen[n-1] != want {
			t.Errorf("step %d: it has read %q, want %q", n+1, seen, want)
		}
	}
	finish(t, m)
	if len(seen) != 4 {
		t.Error("a job that has a descriptor is run:", seen)
	}
}

// P8.1: each job begins with a fresh record: what was learnt for the one ahead
// of it is learnt anew.
func TestBeginsFresh(t *testing.T) {
	s := store(t, api.MaxVersion, 1, 2)
	m := jobs(t, s, []Job{look(0, 1), look(0)})
	steps(t, m, 0, 10)
	is(t, "the first one", m, s, "[3] | 0.0=3 | 1.0 2.0")
	if err := s.Set(0, 7); err != nil {
		t.Fatal(err)
	}
	goes(t, "the second one", m, s, by(0,
		"[3]* | 0.0=3 | 7.0 2.0",                // begins
		"[3]* | 0.0=3 | 7.0 2.0",                // learns
		"[3]* | 0.0=3 | 7.0 2.0",                // mark 2
		"[3]* | 0.0=3 | 7.0*2 2.0",              // reserves that one alone
		"[3]* | 0.0=3, 0.1=7 | 7.0*2 2.0",       // Done
		"[3]* | 0.0=3, 0.1=7 | 7.0 2.0",         // releases
		"[3 7] | 0.0=3, 0.1=7 | 7.0 2.0 | idle", // tells
	)...)
}

// P8.1: Failed, the job begins anew with a fresh record, and no descriptor; it
// isn't another one, and the feed isn't asked.
func TestFailed(t *testing.T) {
	s := store(t, api.MaxVersion, 1, 2)
	m := jobs(t, s, one(look(0, 1)), one(add(1, 5)))
	steps(t, m, 0, 4) // mark 1
	steps(t, m, 1, 7) // mark 2: done
	goes(t, "failed", m, s, by(0,
		"[]* [7] | 1.0=7 | 1.0*1 7.1", // reserves
		"[]* [7] | 1.0=7 | 1.0*1 7.1", // Failed
		"[]* [7] | 1.0=7 | 1.0 7.1",   // releases
		"[]* [7] | 1.0=7 | 1.0 7.1",   // over
		"[]* [7] | 1.0=7 | 1.0 7.1",   // a fresh record
		"[]* [7] | 1.0=7 | 1.0 7.1",   // learns
		"[]* [7] | 1.0=7 | 1.0 7.1",   // learns
		"[]* [7] | 1.0=7 | 1.0 7.1",   // mark 3
		"[]* [7] | 1.0=7 | 1.0*3 7.1",
		"[]* [7] | 1.0=7 | 1.0*3 7.1*3",
		"[]* [7] | 1.0=7, 0.0=8 | 1.0*3 7.1*3",
		"[]* [7] | 1.0=7, 0.0=8 | 1.0 7.1*3",
		"[]* [7] | 1.0=7, 0.0=8 | 1.0 7.1",
		"[8] [7] | 1.0=7, 0.0=8 | 1.0 7.1 | idle",
	)...)
	rests(t, "behind both", m, s)
}

// P8.1: begun anew, a job reads what it needs then: nothing that it read ahead
// is in its record any more.
func TestFailedReadsLess(t *testing.T) {
	s := store(t, api.MaxVersion, 0, 5, 6)
	m := jobs(t, s, one(func(v view.View) int {
		if v.Read(0) == 0 {
			return int(v.Read(1))
		}
		return int(v.Read(2))
	}), one(add(0, 1)))
	steps(t, m, 0, 4) // of cells 0, 1: mark 1
	steps(t, m, 1, 7)
	steps(t, m, 0, 7) // Failed, released, fresh; learns 0, 2; mark 3
	goes(t, "begun anew", m, s, by(0,
		"[]* [1] | 1.0=1 | 1.1*3 5.0 6.0",
		"[]* [1] | 1.0=1 | 1.1*3 5.0 6.0*3",
		"[]* [1] | 1.0=1, 0.0=6 | 1.1*3 5.0 6.0*3",
	)...)
}

// P8.1: a version at its end: the job is Spent, tells -1, and is over; what it
// only reads at that version isn't.
func TestSpent(t *testing.T) {
	s := store(t, 1, 0, 4)
	m := jobs(t, s, []Job{add(0, 1), add(0, 1), look(0, 1), func(v view.View) int {
		v.Write(1, v.Read(0)+v.Read(1))
		v.Write(0, 9)
		return 5
	}, add(1, 2)})
	steps(t, m, 0, 7)
	is(t, "at its end", m, s, "[1] | 0.0=1 | 1.1 4.0")
	goes(t, "spent", m, s, by(0,
		"[1]* | 0.0=1 | 1.1 4.0",                 // begins
		"[1]* | 0.0=1 | 1.1 4.0",                 // learns
		"[1]* | 0.0=1 | 1.1 4.0",                 // mark 2
		"[1]* | 0.0=1, 0.1=-1 spent | 1.1 4.0",   // Spent
		"[1]* | 0.0=1, 0.1=-1 spent | 1.1 4.0",   // over
		"[1 -1] | 0.0=1, 0.1=-1 spent | 1.1 4.0", // tells
	)...)
	steps(t, m, 0, 10)
	is(t, "only read", m, s, "[1 -1 5] | 0.0=1, 0.1=-1 spent, 0.2=5 | 1.1 4.0")
	steps(t, m, 0, 4)
	goes(t, "spent, with another cell", m, s, by(0,
		"[1 -1 5]* | 0.0=1, 0.1=-1 spent, 0.2=5, 0.3=-1 spent | 1.1 4.0",
		"[1 -1 5]* | 0.0=1, 0.1=-1 spent, 0.2=5, 0.3=-1 spent | 1.1 4.0",
		"[1 -1 5]* | 0.0=1, 0.1=-1 spent, 0.2=5, 0.3=-1 spent | 1.1 4.0",
		"[1 -1 5 -1] | 0.0=1, 0.1=-1 spent, 0.2=5, 0.3=-1 spent | 1.1 4.0",
	)...)
	steps(t, m, 0, 7)
	is(t, "another cell", m, s, "[1 -1 5 -1 6] | 0.0=1, 0.1=-1 spent, 0.2=5, 0.3=-1 spent, 0.4=6 | 1.1 6.1 | idle")
	rests(t, "behind all", m, s)
}

// P8.1: a Spent job puts nothing, though it has reserved cells by then.
func TestSpentReleases(t *testing.T) {
	s := store(t, 1, 4, 0)
	m := jobs(t, s, []Job{add(1, 1), func(v view.View) int {
		v.Write(0, v.Read(1)+8)
		v.Write(1, 8)
		return 77
	}})
	steps(t, m, 0, 11)
	goes(t, "spent", m, s, by(0,
		"[1]* | 0.0=1 | 4.0*2 1.1",
		"[1]* | 0.0=1, 0.1=-1 spent | 4.0*2 1.1",
		"[1]* | 0.0=1, 0.1=-1 spent | 4.0 1.1",
		"[1]* | 0.0=1, 0.1=-1 spent | 4.0 1.1",
		"[1 -1] | 0.0=1, 0.1=-1 spent | 4.0 1.1 | idle",
	)...)
}

// P8.1: the store's limit of versions: as many are Done, each job behind them
// is Spent.
func TestLimit(t *testing.T) {
	for _, limit := range []uint32{1, 2, 5} {
		s := store(t, limit, 0)
		m := jobs(t, s, slices.Repeat(one(add(0, 1)), 8))
		finish(t, m)
		for n, e := range m.Log() {
			want := Entry{Job: n, Told: n + 1}
			if n >= int(limit) {
				want = Entry{Job: n, Told: -1, Spent: true}
			}
			if e != want || m.Told(0)[n] != want.Told {
				t.Errorf("limit %d: %+v, it told %d, want %+v", limit, e, m.Told(0)[n], want)
			}
		}
		if c, _ := s.Read(0); c != (api.Cell{Value: uint64(limit), Version: limit}) || len(m.Log()) != 8 {
			t.Errorf("limit %d: %+v behind %d", limit, c, len(m.Log()))
		}
	}
}

// P8.1: a job that tells -1 of its own is Done, and isn't Spent.
func TestTellsMinusOne(t *testing.T) {
	s := store(t, 1, 0)
	m := jobs(t, s, one(func(v view.View) int {
		v.Write(0, 6)
		return -1
	}))
	finish(t, m)
	is(t, "-1", m, s, "[-1] | 0.0=-1 | 6.1 | idle")
}

// P8.1: what a job told when it was run last is told, not what it told of a
// record that lacked a cell, or that Failed.
func TestTellsTheLast(t *testing.T) {
	s := store(t, api.MaxVersion, 50)
	m := jobs(t, s, one(add(0, 1)), one(add(0, 7)))
	steps(t, m, 0, 4) // mark 1, reserved: of 50
	steps(t, m, 1, 3) // mark 1 is in the way: Done, put; learns 51
	is(t, "helped", m, s, "[]* []* | 0.0=51 | 51.1")
	steps(t, m, 0, 1)
	is(t, "told", m, s, "[51] []* | 0.0=51 | 51.1")
	finish(t, m)
	is(t, "both", m, s, "[51] [58] | 0.0=51, 1.0=58 | 58.2 | idle")
}

// P8.1: a cell that bears a mark isn't learnt: that mark's descriptor goes a
// step; once it is free, it is learnt as it is then.
func TestMarkedIsNotLearnt(t *testing.T) {
	s := store(t, api.MaxVersion, 1, 2)
	var seen []uint64
	m := jobs(t, s, one(func(v view.View) int {
		v.Write(1, v.Read(0)+v.Read(1))
		return 0
	}), one(func(v view.View) int {
		w := v.Read(1)
		seen = append(seen, w)
		return int(w)
	}))
	steps(t, m, 0, 6) // both cells bear mark 1
	is(t, "ahead of it", m, s, "[]* [] |  | 1.0*1 2.0*1")
	goes(t, "cell 1 is marked", m, s, by(1,
		"[]* []* |  | 1.0*1 2.0*1",      // begins
		"[]* []* | 0.0=0 | 1.0*1 2.0*1", // 1 goes a step: Done
		"[]* []* | 0.0=0 | 1.0 2.0*1",   // 1 goes a step: releases
		"[]* []* | 0.0=0 | 1.0 3.1",     // 1 goes a step: puts
		"[]* []* | 0.0=0 | 1.0 3.1",     // learns
		"[]* []* | 0.0=0 | 1.0 3.1",     // mark 2
		"[]* []* | 0.0=0 | 1.0 3.1*2",   // reserves
	)...)
	if !slices.Equal(seen, []uint64{0, 0, 0, 0, 3}) {
		t.Error("it has read", seen)
	}
}

// P8.1: a job helped to its end by others: the log has it ahead of its worker's
// next step, by which it is told.
func TestHelpedToItsEnd(t *testing.T) {
	s := store(t, api.MaxVersion, 1)
	m := jobs(t, s, []Job{fix(9), add(0, 1)}, one(add(0, 5)))
	steps(t, m, 0, 8)
	is(t, "reserved", m, s, "[9]* [] | 0.0=9 | 1.0*2")
	goes(t, "helped", m, s, by(1,
		"[9]* []* | 0.0=9 | 1.0*2",
		"[9]* []* | 0.0=9, 0.1=2 | 1.0*2",
		"[9]* []* | 0.0=9, 0.1=2 | 2.1",
		"[9]* []* | 0.0=9, 0.1=2 | 2.1", // learns
		"[9]* []* | 0.0=9, 0.1=2 | 2.1", // mark 3
		"[9]* []* | 0.0=9, 0.1=2 | 2.1*3",
		"[9]* []* | 0.0=9, 0.1=2, 1.0=7 | 2.1*3",
		"[9]* []* | 0.0=9, 0.1=2, 1.0=7 | 7.2",
		"[9]* [7] | 0.0=9, 0.1=2, 1.0=7 | 7.2",
	)...)
	if m.Step(1) || m.Idle() || !m.Busy(0) || m.Busy(1) {
		t.Error("worker 0 alone has a job under way")
	}
	goes(t, "its own next step", m, s, turn{0, "[9 2] [7] | 0.0=9, 0.1=2, 1.0=7 | 7.2 | idle"})
	rests(t, "behind both", m, s)
}

// P8.1: helped on while it is Spent, too.
func TestHelpedToSpent(t *testing.T) {
	s := store(t, 1, 4, 0)
	spend := func(v view.View) int {
		v.Write(0, v.Read(0)+1)
		v.Write(1, v.Read(1)+1)
		return 6
	}
	m := jobs(t, s, []Job{add(1, 1), spend}, one(look(0)))
	steps(t, m, 0, 12)
	is(t, "reserved", m, s, "[1]* [] | 0.0=1 | 4.0*2 1.1")
	goes(t, "helped", m, s, by(1,
		"[1]* []* | 0.0=1 | 4.0*2 1.1",
		"[1]* []* | 0.0=1, 0.1=-1 spent | 4.0*2 1.1",
		"[1]* []* | 0.0=1, 0.1=-1 spent | 4.0 1.1",
		"[1]* []* | 0.0=1, 0.1=-1 spent | 4.0 1.1", // learns
		"[1]* []* | 0.0=1, 0.1=-1 spent | 4.0 1.1", // mark 3
		"[1]* []* | 0.0=1, 0.1=-1 spent | 4.0*3 1.1",
	)...)
	goes(t, "its own steps", m, s, by(0,
		"[1]* []* | 0.0=1, 0.1=-1 spent | 4.0*3 1.1",
		"[1 -1] []* | 0.0=1, 0.1=-1 spent | 4.0*3 1.1",
	)...)
}

// P8.1: what is in the way of what is in the way goes the step, and so on: one
// step for each, of the last one of these.
func TestWayOfWays(t *testing.T) {
	s := store(t, api.MaxVersion, 0, 0, 0, 0)
	both := func(i int) Job {
		return func(v view.View) int {
			v.Write(i, v.Read(i)+1)
			v.Write(i+1, v.Read(i+1)+1)
			return 10*int(v.Read(i)) + int(v.Read(i+1))
		}
	}
	m := jobs(t, s, one(both(2)), one(both(1)), one(both(0)), one(look(0)))
	for w := range 3 {
		steps(t, m, w, 4) // marks 1, 2, 3: each of two cells
	}
	for w := range 3 {
		steps(t, m, w, 1) // cells 2, 1, 0 are reserved
	}
	steps(t, m, 3, 1)
	is(t, "a chain", m, s, "[]* []* []* []* |  | 0.0*3 0.0*2 0.0*1 0.0")
	goes(t, "what lacks a cell", m, s, by(3,
		"[]* []* []* []* |  | 0.0*3 0.0*2 0.0*1 0.0*1",
		"[]* []* []* []* | 0.0=11 | 0.0*3 0.0*2 0.0*1 0.0*1",
		"[]* []* []* []* | 0.0=11 | 0.0*3 0.0*2 1.1 0.0*1",
	)...)
	goes(t, "what is in the way of nothing any more", m, s,
		turn{2, "[]* []* []* []* | 0.0=11 | 0.0*3 0.0*2 1.1 0.0*1"}, // 2 Failed
		turn{2, "[]* []* []* []* | 0.0=11 | 0.0*3 0.0 1.1 0.0*1"},   // 2 releases
		turn{2, "[]* []* []* []* | 0.0=11 | 0.0*3 0.0*3 1.1 0.0*1"}, // its own
		turn{1, "[]* []* []* []* | 0.0=11 | 0.0*3 0.0*3 1.1 0.0*1"}, // 2 is over
		turn{3, "[]* []* []* []* | 0.0=11, 2.0=11 | 0.0*3 0.0*3 1.1 0.0*1"},
		turn{0, "[]* []* []* []* | 0.0=11, 2.0=11 | 0.0*3 0.0*3 1.1 1.1"},
		turn{0, "[11] []* []* []* | 0.0=11, 2.0=11 | 0.0*3 0.0*3 1.1 1.1"},
	)
	finish(t, m)
	is(t, "behind all", m, s, "[11] [22] [11] [1] | 0.0=11, 2.0=11, 3.0=1, 1.0=22 | 1.1 2.2 2.2 1.1 | idle")
}

// P8.1: descriptors are of marks 1, 2, and so on, as they are made, whoever
// makes them, also those that Failed, or were Spent.
func TestMarks(t *testing.T) {
	s := store(t, 1, 0, 0)
	m := jobs(t, s, slices.Repeat(one(look(0)), 3), []Job{add(1, 1), add(1, 1), look(1)})
	mark := func(worker, cell, want int) {
		t.Helper()
		for range 8 {
			m.Step(worker)
			if c, _ := s.Read(cell); c.Mark != 0 {
				if c.Mark != want {
					t.Errorf("worker %d: mark %d, want %d", worker, c.Mark, want)
				}
				steps(t, m, worker, 3)
				return
			}
		}
		t.Fatal("worker", worker, "reserves nothing")
	}
	mark(0, 0, 1)
	mark(1, 1, 2)
	mark(0, 0, 3)
	steps(t, m, 1, 6) // Spent: mark 4
	mark(1, 1, 5)
	mark(0, 0, 6)
	is(t, "behind all", m, s,
		"[0 0 0] [1 -1 1] | 0.0=0, 1.0=1, 0.1=0, 1.1=-1 spent, 1.2=1, 0.2=0 | 0.0 1.1 | idle")
}

// P8.1: two machines, one behind the other, of one store: marks begin anew.
func TestNextMachine(t *testing.T) {
	s := store(t, api.MaxVersion, 0)
	for n := range 3 {
		m := jobs(t, s, one(add(0, 1)))
		steps(t, m, 0, 4)
		is(t, "reserved", m, s, fmt.Sprintf("[]* |  | %d.%d*1", n, n))
		finish(t, m)
		is(t, "done", m, s, fmt.Sprintf("[%d] | 0.0=%d | %d.%d | idle", n+1, n+1, n+1, n+1))
	}
}

// P8.1: New refuses no store, more feeds than there may be, and a feed that is
// nil, wherever it is.
func TestNewRefuses(t *testing.T) {
	s := store(t, api.MaxVersion, 5)
	none := List(nil)
	refuses := func(what string, s *word.Store, feeds []Feed) {
		t.Helper()
		m, err := New(s, feeds)
		if m != nil || err == nil || !errors.Is(err, api.ErrArg) {
			t.Errorf("%s: %v, %v", what, m, err)
		}
		if code, ok := err.(api.Code); !ok || code != api.ErrArg {
			t.Errorf("%s: it isn't the Code itself: %v", what, err)
		}
	}
	refuses("no store", nil, []Feed{none})
	refuses("no store, no feeds", nil, nil)
	refuses("no store, a nil feed", nil, make([]Feed, 1))
	for _, n := range []int{9, 10, 100} {
		refuses("too many feeds", s, slices.Repeat([]Feed{none}, n))
		refuses("too many nil feeds", s, make([]Feed, n))
		refuses("too many feeds, no store", nil, slices.Repeat([]Feed{none}, n))
	}
	for n := range api.MaxThreads {
		for i := range n + 1 {
			feeds := slices.Repeat([]Feed{none}, n+1)
			feeds[i] = nil
			refuses("a nil feed", s, feeds)
		}
	}
	if c, err := s.Read(0); err != nil || c != (api.Cell{Value: 5}) {
		t.Error("the store has changed:", c, err)
	}
}

// P8.1: from no feeds to as many as there may be, each has a worker.
func TestNewTakes(t *testing.T) {
	for n := range api.MaxThreads + 1 {
		s := store(t, api.MaxVersion, 0)
		var feeds []Feed
		for w := range n {
			feeds = append(feeds, List(one(add(0, 1<<w))))
		}
		m := machine(t, s, feeds...)
		if m.Idle() != (n == 0) || len(m.Log()) != 0 {
			t.Errorf("%d workers: %v, %v", n, m.Idle(), m.Log())
		}
		for w := range n {
			if m.Busy(w) || len(m.Told(w)) != 0 || !m.Step(w) || !m.Busy(w) {
				t.Errorf("%d workers: worker %d", n, w)
			}
		}
		finish(t, m)
		if s.Values()[0] != 1<<n-1 || len(m.Log()) != n {
			t.Errorf("%d workers: %v, %v", n, s.Values(), m.Log())
		}
		rests(t, fmt.Sprint(n, " workers"), m, s)
	}
	m, err := New(store(t, 1, 0), []Feed{})
	if err != nil || !m.Idle() || m.Step(0) {
		t.Error("an empty list:", err)
	}
}

// P8.1: of a worker that there isn't nothing is done, or told.
func TestNoWorker(t *testing.T) {
	s := store(t, api.MaxVersion, 0)
	for n := range api.MaxThreads + 1 {
		m := jobs(t, s, slices.Repeat([][]Job{{add(0, 1), add(0, 1)}}, n)...)
		for range 4 {
			still := show(m, s)
			for _, w := range []int{-1, -2, -n - 1, math.MinInt, n, n + 1, n + 8, 1 << 32, 1<<32 + 1, math.MaxInt} {
				if m.Step(w) || m.Busy(w) || len(m.Told(w)) != 0 {
					t.Errorf("of %d workers: worker %d has a job", n, w)
				}
				is(t, "a worker that there isn't", m, s, still)
			}
			for w := range n {
				m.Step(w)
				m.Step(w)
			}
		}
		finish(t, m)
	}
}

// P8.1: a feed is told what all its jobs told ahead, in order, each time that
// it is asked; and the job is the one that it tells of that.
func TestFeedIsTold(t *testing.T) {
	s := store(t, 2, 0)
	asked := 0
	m := machine(t, s, func(told []int) Job {
		asked++
		want := []int{10, 20, -1, -1}
		if !slices.Equal(told, want[:min(len(told), 4)]) {
			t.Error("it is told", told)
		}
		if len(told) == 4 {
			return nil
		}
		return func(v view.View) int {
			v.Write(0, v.Read(0)+1)
			return 10 * (len(told) + 1)
		}
	}, List(nil))
	for n, at := range []int{7, 7, 6, 6} {
		was := asked
		steps(t, m, 0, 1)
		if asked != was+1 {
			t.Errorf("job %d: it was asked %d times", n, asked-was)
		}
		steps(t, m, 0, at-1)
		if asked != was+1 {
			t.Errorf("job %d: it was asked under way", n)
		}
	}
	is(t, "behind all", m, s, "[10 20 -1 -1] [] | 0.0=10, 0.1=20, 0.2=-1 spent, 0.3=-1 spent | 2.2 | idle")
	rests(t, "behind all", m, s)
}

// P8.1: a job hangs on what those ahead of it told.
func TestFeedChooses(t *testing.T) {
	s := store(t, api.MaxVersion, 0, 0)
	m := machine(t, s, func(told []int) Job {
		switch {
		case len(told) == 0 || told[len(told)-1] < 3:
			return add(0, 1)
		case len(told) < 5:
			return add(1, 10)
		}
		return nil
	})
	finish(t, m)
	is(t, "behind all", m, s, "[1 2 3 10 20] | 0.0=1, 0.1=2, 0.2=3, 0.3=10, 0.4=20 | 3.3 20.2 | idle")
}

// P8.1: a feed that tells none at once; it may tell one later.
func TestFeedTellsNone(t *testing.T) {
	s := store(t, api.MaxVersion, 0)
	var next Job
	m := machine(t, s, func(told []int) Job { return next })
	is(t, "none", m, s, "[] |  | 0.0 | idle")
	rests(t, "none", m, s)
	next = add(0, 1)
	is(t, "one", m, s, "[] |  | 0.0")
	steps(t, m, 0, 1)
	next = nil
	is(t, "under way", m, s, "[]* |  | 0.0")
	steps(t, m, 0, 6)
	is(t, "none again", m, s, "[1] | 0.0=1 | 1.1 | idle")
	rests(t, "none again", m, s)
	next = add(0, 1)
	steps(t, m, 0, 7)
	next = nil
	is(t, "one again", m, s, "[1 2] | 0.0=1, 0.1=2 | 2.2 | idle")
}

// P8.1: a machine is idle if no worker has a job next, or under way, whichever
// one it is.
func TestIdle(t *testing.T) {
	for w := range 3 {
		s := store(t, api.MaxVersion, 0)
		lists := make([][]Job, 3)
		lists[w] = []Job{fix(4), fix(5)}
		m := jobs(t, s, lists...)
		for k := range 8 {
			if m.Idle() || m.Busy(w) != (k%4 != 0) || len(m.Told(w)) != k/4 || len(m.Log()) != (k+1)/4 {
				t.Errorf("worker %d, behind %d steps: %s", w, k, show(m, s))
			}
			for i := range 3 {
				if m.Step(i) != (i == w) {
					t.Errorf("worker %d, behind %d steps: a step of %d", w, k, i)
				}
			}
		}
		numbers(t, "behind all", m.Told(w), 4, 5)
		rests(t, "behind all", m, s)
	}
}

// P8.1: List tells its jobs one behind the other, by how many were told.
func TestList(t *testing.T) {
	f := List([]Job{fix(1), fix(2), fix(3)})
	for range 2 {
		for n, told := range [][]int{nil, {7}, {0, -1}} {
			if j := f(told); j == nil || j(view.Plain{}) != n+1 {
				t.Errorf("of %v it tells another one", told)
			}
		}
		for _, told := range [][]int{{1, 2, 3}, {1, 2, 3, 4}, make([]int, 1000)} {
			if f(told) != nil {
				t.Errorf("of %v it tells one", told)
			}
		}
		if j := f([]int{}); j == nil || j(view.Plain{}) != 1 {
			t.Error("of an empty list it tells another one")
		}
	}
}

// P8.1: List of no jobs, and of nil, is a feed that tells none.
func TestListOfNone(t *testing.T) {
	for _, l := range [][]Job{nil, {}, make([]Job, 0, 5)} {
		f := List(l)
		if f == nil || f(nil) != nil || f([]int{1}) != nil {
			t.Fatal("a list of no jobs")
		}
		s := store(t, api.MaxVersion, 0)
		m := machine(t, s, f, f)
		is(t, "no jobs", m, s, "[] [] |  | 0.0 | idle")
		rests(t, "no jobs", m, s)
	}
}

// P8.1: a nil job in a list is none: the worker has none any more.
func TestListOfNil(t *testing.T) {
	s := store(t, api.MaxVersion, 0)
	m := jobs(t, s, []Job{fix(1), nil, fix(3)})
	steps(t, m, 0, 4)
	is(t, "a nil one is next", m, s, "[1] | 0.0=1 | 0.0 | idle")
	rests(t, "a nil one is next", m, s)
}

// R2: a list that is handed in is neither changed nor kept.
func TestListsAreTheirOwn(t *testing.T) {
	l := []Job{fix(1), fix(2)}
	f := List(l)
	l[0], l[1] = fix(8), nil
	feeds := []Feed{f, List(one(fix(5)))}
	s := store(t, api.MaxVersion, 0)
	m := machine(t, s, feeds...)
	m2, err := New(s, feeds)
	if err != nil {
		t.Fatal(err)
	}
	feeds[0], feeds[1] = nil, f
	finish(t, m2)
	numbers(t, "worker 0", m2.Told(0), 1, 2)
	numbers(t, "worker 1", m2.Told(1), 5)
	finish(t, m)
	numbers(t, "another machine's", m.Told(0), 1, 2)
	room := []Job{fix(1), fix(2), fix(3)}
	f = List(room[:1])
	if f([]int{1}) != nil || room[1](nil) != 2 {
		t.Error("what lies behind a list's end is no part of it")
	}
}

// R2: neither is what a feed is asked with: a list is its own.
func TestListKeepsNothingTold(t *testing.T) {
	told := []int{7}
	f := List([]Job{fix(1), fix(2), fix(3)})
	f(told)
	if told[0] != 7 || len(told) != 1 {
		t.Error("it changed", told)
	}
}

// P8.2: what Told and Log tell is new memory.
func TestToldIsNew(t *testing.T) {
	s := store(t, api.MaxVersion, 0)
	m := jobs(t, s, []Job{fix(1), fix(2), fix(3)}, one(fix(9)))
	steps(t, m, 0, 8)
	told, log := m.Told(0), m.Log()
	kept, old := m.Told(0), m.Log()
	for i := range told {
		told[i], log[i] = 77, Entry{7, 7, 7, true}
	}
	_ = append(told, 78)
	_ = append(log, Entry{8, 8, 8, true})
	is(t, "changed lists", m, s, "[1 2] [] | 0.0=1, 0.1=2 | 0.0")
	finish(t, m)
	numbers(t, "a list that was told", kept, 1, 2)
	if !slices.Equal(old, []Entry{{0, 0, 1, false}, {0, 1, 2, false}}) {
		t.Error("a log that was told:", old)
	}
	numbers(t, "worker 0", m.Told(0), 1, 2, 3)
	numbers(t, "worker 1", m.Told(1), 9)
}

// P8.2: so is the list that a feed is told, each time.
func TestFeedsListIsNew(t *testing.T) {
	s := store(t, api.MaxVersion, 0)
	var kept [][]int
	spoil := func(told []int) Job {
		if !slices.Equal(told, []int{4, 4, 4}[:len(told)]) {
			t.Error("it is told", told)
		}
		kept = append(kept, told)
		for i := range told {
			told[i] = 77
		}
		_ = append(told, 78)
		if len(told) == 3 {
			return nil
		}
		return fix(4)
	}
	m := machine(t, s, spoil)
	for range 12 {
		steps(t, m, 0, 1)
		m.Idle()
		m.Idle()
	}
	is(t, "spoilt lists", m, s, "[4 4 4] | 0.0=4, 0.1=4, 0.2=4 | 0.0 | idle")
	for _, l := range kept {
		for _, n := range l {
			if n != 77 {
				t.Error("a list that a feed was told changed:", l)
			}
		}
	}
}

// P8.1: machines know nothing of each other, though they have a feed in common.
func TestMachinesAreTheirOwn(t *testing.T) {
	f := List([]Job{add(0, 1), add(0, 1)})
	a, b := store(t, api.MaxVersion, 0), store(t, 1, 5)
	m, n := machine(t, a, f, f), machine(t, b, f)
	steps(t, m, 0, 5)
	is(t, "the other one", n, b, "[] |  | 5.0")
	finish(t, n)
	is(t, "the other one", n, b, "[6 -1] | 0.0=6, 0.1=-1 spent | 6.1 | idle")
	is(t, "the one", m, a, "[]* [] | 0.0=1 | 0.0*1")
	finish(t, m)
	if a.Values()[0] != 4 || b.Values()[0] != 6 {
		t.Error(a.Values(), b.Values())
	}
}

// P1 of the whole: a feed that panics tells none; a job that panics is over,
// and tells 0.
func TestPanics(t *testing.T) {
	s := store(t, api.MaxVersion, 3)
	m := machine(t, s, func(told []int) Job { panic("so") }, func(told []int) Job { return []Job{fix(6)}[len(told)] },
		List([]Job{func(view.View) int { panic(nil) }, func(v view.View) int {
			v.Write(0, 7)
			if v.Read(0) == 7 {
				panic("so")
			}
			return 9
		}, func(v view.View) int { return 100 / int(v.Read(0)) }}))
	finish(t, m)
	is(t, "panics", m, s, "[] [6] [0 0 14] | 1.0=6, 2.0=0, 2.1=0, 2.2=14 | 7.1 | idle")
	rests(t, "panics", m, s)
}

// P1 of the whole: a job that panics tells 0, whatever it told of a record that
// lacked a cell.
func TestPanicsLate(t *testing.T) {
	s := store(t, api.MaxVersion, 3)
	m := jobs(t, s, one(func(v view.View) int {
		if v.Read(0) != 0 {
			panic("so")
		}
		return 9
	}))
	finish(t, m)
	is(t, "it panics late", m, s, "[0] | 0.0=0 | 3.0 | idle")
}

// P8.1: jobs, and feeds, may ask the machine.
func TestAskedWithin(t *testing.T) {
	s := store(t, api.MaxVersion, 3)
	var m *Machine
	m = machine(t, s, func(told []int) Job {
		numbers(t, "asked by its feed", m.Told(0), told...)
		if len(m.Log()) != len(told) || len(told) == 2 {
			return nil
		}
		return func(v view.View) int {
			if !m.Busy(0) || m.Idle() || m.Busy(1) {
				t.Error("it isn't under way")
			}
			return len(m.Log())*10 + int(v.Read(0))
		}
	})
	finish(t, m)
	is(t, "asked within", m, s, "[3 13] | 0.0=3, 0.1=13 | 3.0 | idle")
}

// P1 of the whole: a mark that is no descriptor's stays in the way, of a cell
// that is to be learnt, or reserved; each step ends. Released, all goes on.
func TestStrayMarks(t *testing.T) {
	for _, mark := range []int{7, 1, 2, math.MaxInt} {
		s := store(t, api.MaxVersion, 3, 4)
		if s.Reserve(0, 0, mark) != nil {
			t.Fatal("it can't be reserved")
		}
		m := jobs(t, s, one(add(0, 1)), one(look(1)))
		cell := fmt.Sprintf("3.0*%d", mark)
		goes(t, "a stray mark", m, s, by(0, "[]* [] |  | "+cell+" 4.0", "[]* [] |  | "+cell+" 4.0",
			"[]* [] |  | "+cell+" 4.0")...)
		steps(t, m, 1, 7)
		goes(t, "another one goes on", m, s, by(0, "[]* [4] | 1.0=4 | "+cell+" 4.0",
			"[]* [4] | 1.0=4 | "+cell+" 4.0")...)
		if s.Release(0, mark) != nil {
			t.Fatal("it can't be released")
		}
		steps(t, m, 0, 2) // mark 2
		if s.Reserve(0, 0, 9) != nil {
			t.Fatal("it can't be reserved again")
		}
		steps(t, m, 0, 3)
		if s.Release(0, 9) != nil {
			t.Fatal("it can't be released again")
		}
		finish(t, m)
		is(t, "behind all", m, s, "[4] [4] | 1.0=4, 0.0=4 | 4.1 4.0 | idle")
	}
}

// P1 of the whole: nor does a step go on for ever where marks that somebody
// else laid let each one be in another one's way.
func TestStrayRing(t *testing.T) {
	s := store(t, api.MaxVersion, 0, 0, 0)
	both := func(v view.View) int {
		v.Write(0, v.Read(0)+1)
		v.Write(1, v.Read(1)+1)
		return int(v.Read(0))
	}
	m := jobs(t, s, one(both), one(both), one(look(1)))
	steps(t, m, 0, 4)
	steps(t, m, 1, 4)
	steps(t, m, 2, 1)
	steps(t, m, 0, 1)
	if s.Reserve(1, 0, 2) != nil {
		t.Fatal("it can't be reserved")
	}
	for range 4 {
		goes(t, "a ring", m, s, turn{0, "[]* []* []* |  | 0.0*1 0.0*2 0.0"},
			turn{1, "[]* []* []* |  | 0.0*1 0.0*2 0.0"}, turn{2, "[]* []* []* |  | 0.0*1 0.0*2 0.0"})
	}
	if s.Release(1, 2) != nil {
		t.Fatal("it can't be released")
	}
	finish(t, m)
	is(t, "behind all", m, s, "[1] [2] [1] | 0.0=1, 2.0=1, 1.0=2 | 2.2 2.2 0.0 | idle")
}

// P1 of the whole: as many cells as there may be.
func TestManyCells(t *testing.T) {
	s := store(t, api.MaxVersion, make([]uint64, api.MaxCells)...)
	all := func(v view.View) int {
		for i, w := range view.Range(v, 0, api.MaxCells) {
			v.Write(i, w+1)
		}
		return int(v.Read(api.MaxCells - 1))
	}
	m := jobs(t, s, one(all))
	steps(t, m, 0, 3*api.MaxCells+4)
	if !m.Idle() || len(m.Log()) != 1 || m.Told(0)[0] != 1 || slices.Min(s.Values()) != 1 || slices.Max(s.Values()) != 1 {
		t.Error(m.Log(), m.Told(0))
	}
	rests(t, "as many as there may be", m, s)
}
