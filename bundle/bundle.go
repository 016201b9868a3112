// Package bundle: an ordered store whose links remember, worked by several threads step by step: see DOC.md.
package bundle

import (
	"bundle/api"
	"bundle/memory"
)

// Store is a store with its threads, its pools, its clock and its sweep.
type Store struct {
	kind    int
	limit   int
	clock   int
	memory  *memory.Memory
	threads []*worker
	sweep   sweep
}

// New makes a store (P3).
func New(c api.Config) (*Store, api.Errno) {
	if !isConfig(c) {
		return nil, api.ErrConfig
	}
	s := &Store{kind: c.Kind, limit: c.Limit}
	s.memory = memory.New(c.Nodes, c.Entries)
	for i := 0; i < c.Threads; i++ {
		s.threads = append(s.threads, &worker{number: i})
	}
	return s, api.OK
}

// Begin gives a thread an operation (P4).
func (s *Store) Begin(thread int, op api.Op) api.Errno {
	if !s.hasThread(thread) {
		return api.ErrThread
	}
	t := s.threads[thread]
	if t.busy {
		return api.ErrBusy
	}
	e := checkOp(op)
	if e != api.OK {
		return e
	}
	t.busy = true
	t.work = newWork(op)
	return api.OK
}

// Step lets a thread make one step (P5).
func (s *Store) Step(thread int) (int, api.Errno) {
	if !s.hasThread(thread) {
		return 0, api.ErrThread
	}
	t := s.threads[thread]
	if !t.busy {
		return 0, api.ErrIdle
	}
	how := s.makeStep(t)
	return how, api.OK
}

// Answer tells what the operation answered that a thread ended last (P6).
func (s *Store) Answer(thread int) (api.Answer, api.Errno) {
	if !s.hasThread(thread) {
		return api.Answer{}, api.ErrThread
	}
	t := s.threads[thread]
	if !t.hasEnded {
		return api.Answer{}, api.ErrIdle
	}
	answer := t.last
	answer.Spans = copyLists(t.last.Spans)
	return answer, api.OK
}

// Sweep makes one step of the sweep (P10).
func (s *Store) Sweep() int { return s.sweepStep() }

// Clock tells the clock (P7).
func (s *Store) Clock() int { return s.clock }

// Room tells how many nodes and entries are in the pools (P7).
func (s *Store) Room() (int, int) {
	nodes, entries := s.memory.Room()
	return nodes, entries
}

func (s *Store) hasThread(thread int) bool {
	return thread >= 0 && thread < len(s.threads)
}

// copyLists: each list begins at nothing, and so shares no room with another, nor with the store.
func copyLists(lists [][]api.Pair) [][]api.Pair {
	var fresh [][]api.Pair
	for i := range lists {
		var list []api.Pair
		for j := range lists[i] {
			list = append(list, lists[i][j])
		}
		fresh = append(fresh, list)
	}
	return fresh
}
