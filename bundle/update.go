package bundle

import (
	"bundle/api"
	"bundle/memory"
)

// stepOfUpdate makes a step of an Insert or a Remove, from Walk to Unlock (P8). What a tree does otherwise (P11) is told in place.go.
func (s *Store) stepOfUpdate(t *worker) int {
	switch t.work.next {
	case stepWalk:
		s.walk(t)
	case stepLock:
		how := s.lock(t)
		return how
	case stepCheck:
		s.check(t)
	case stepPrepare:
		s.prepare(t)
	case stepTake:
		s.take(t)
	case stepKill:
		s.kill(t)
	case stepLink:
		s.memory.Lead(t.work.turning)
		t.work.next = stepStamp
	case stepStamp:
		s.memory.Stamp(t.work.turning, t.work.answer.Stamp)
		t.work.next = stepUnlock
	case stepUnlock:
		s.unlock(t)
	}
	return api.Moved
}

func (s *Store) walk(t *worker) {
	ahead := s.leadsFrom(t.work.stand, t.work.key)
	if s.isPassed(ahead, t.work.key) {
		t.work.above = t.work.stand
		t.work.stand = ahead
		return
	}
	t.work.ahead = ahead
	t.work.next = stepLock
}

func (s *Store) lock(t *worker) int {
	wanted := s.locksWanted(t)
	if t.work.locks < len(wanted) {
		if !s.memory.Lock(wanted[t.work.locks], t.number) {
			return api.Waited
		}
		t.work.locks++
	}
	if t.work.locks >= len(wanted) {
		t.work.next = stepCheck
	}
	return api.Moved
}

func (s *Store) meetsKey(t *worker) bool {
	return s.memory.Node(t.work.ahead).Key == t.work.key
}

func (s *Store) giveBackLocks(t *worker) {
	s.memory.Unlock(t.number)
	t.work.locks = 0
}

func (s *Store) check(t *worker) {
	if s.isOutdated(t) {
		s.giveBackLocks(t)
		t.beginWalk()
		return
	}
	if s.meetsKey(t) == (t.work.kind == api.Insert) {
		t.settle(api.Answer{Stamp: s.clock})
		return
	}
	t.work.next = stepPrepare
}

func (s *Store) prepare(t *worker) {
	nodesNeeded, entriesNeeded := s.needs(t.work.kind)
	nodes, entries := s.memory.Room()
	if nodes < nodesNeeded || entries < entriesNeeded {
		t.settle(api.Answer{Err: api.ErrFull})
		return
	}
	if t.work.kind == api.Insert {
		s.prepareInsert(t)
	} else {
		s.prepareRemove(t)
	}
	t.work.next = stepTake
}

// pend lays a pending entry at the link that the operation turns.
func (s *Store) pend(t *worker, link memory.Link, to int) {
	t.work.turning = link
	s.memory.Pend(link, to)
}

func (s *Store) take(t *worker) {
	if s.clock >= s.limit {
		s.undo(t)
		t.settle(api.Answer{Err: api.ErrClock})
		return
	}
	s.clock++
	t.work.answer = api.Answer{Did: true, Stamp: s.clock}
	if t.work.kind == api.Remove {
		t.work.answer.Value = s.memory.Node(t.work.ahead).Value
		t.work.next = stepKill
		return
	}
	for i := range t.work.made {
		s.memory.StampNew(t.work.made[i], s.clock)
	}
	t.work.next = stepLink
}

// undo lays back what prepare took.
func (s *Store) undo(t *worker) {
	s.memory.Unpend(t.work.turning)
	for i := range t.work.made {
		s.memory.Free(t.work.made[i])
	}
}

func (s *Store) kill(t *worker) {
	nodes := s.nodesTakenOut(t)
	for i := range nodes {
		s.memory.Kill(nodes[i])
	}
	t.work.next = stepLink
}

// unlock retires what was killed with the clock as it is now, not with the operation's stamp: others may have walked there till now.
func (s *Store) unlock(t *worker) {
	s.giveBackLocks(t)
	if t.work.kind == api.Remove && t.work.answer.Did {
		nodes := s.nodesTakenOut(t)
		for i := range nodes {
			s.memory.Retire(nodes[i], s.clock)
		}
	}
	t.work.next = stepLeave
}
